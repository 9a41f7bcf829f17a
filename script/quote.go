package script

import "strings"

// digits are those that a byte is told with.
const digits = "0123456789abcdef"

// Quote is the quote of bytes.
func Quote(b []byte) string {
	var q strings.Builder
	q.WriteByte('"')
	for _, c := range b {
		switch {
		case c == '"' || c == '\\':
			q.Write([]byte{'\\', c})
		case c == '\r':
			q.WriteString(`\r`)
		case c == '\n':
			q.WriteString(`\n`)
		case c >= 0x20 && c <= 0x7e:
			q.WriteByte(c)
		default:
			q.Write([]byte{'\\', 'x', digits[c>>4], digits[c&15]})
		}
	}
	q.WriteByte('"')
	return q.String()
}

// Unquote is what a quote is of.
func Unquote(s string) ([]byte, bool) {
	var b []byte
	for i := 1; i < len(s)-1; {
		c, size := s[i], 1
		if c == '\\' {
			c, size = escaped(s[i+1:])
		}
		b = append(b, c)
		i += size
	}
	// Whatever was read loosely is written otherwise.
	if Quote(b) != s {
		return nil, false
	}
	return b, true
}

// escaped is the byte that stands behind a \, and how many bytes tell it with the \.
func escaped(s string) (byte, int) {
	switch {
	case strings.HasPrefix(s, "r"):
		return '\r', 2
	case strings.HasPrefix(s, "n"):
		return '\n', 2
	case len(s) > 2 && s[0] == 'x':
		return byte(strings.IndexByte(digits, s[1])<<4 + strings.IndexByte(digits, s[2])), 4
	case s != "":
		return s[0], 2
	}
	return 0, 1
}

package fold_test

import (
	"slices"
	"strings"
	"testing"

	"rollcall/fold"
)

// plain is P1.1's folding, written as a table of pairs.
func plain(b byte) byte {
	from, to := `ABCDEFGHIJKLMNOPQRSTUVWXYZ[]\~`, `abcdefghijklmnopqrstuvwxyz{}|^`
	if i := strings.IndexByte(from, b); i >= 0 {
		return to[i]
	}
	return b
}

// every is the text of all bytes.
func every() string {
	var all []byte
	for b := range 256 {
		all = append(all, byte(b))
	}
	return string(all)
}

func TestByte(t *testing.T) {
	for b := range 256 {
		if got, want := fold.Byte(byte(b)), plain(byte(b)); got != want {
			t.Errorf("Byte(%x) is %x, not %x", b, got, want)
		}
	}
}

func TestText(t *testing.T) {
	for _, c := range []struct{ in, want string }{
		{"", ""}, {"abc", "abc"}, {"ABC", "abc"}, {"A[b]~", "a{b}^"}, {`\|~^@_` + "`", "||^^@_`"}, {"ÀB", "Àb"},
	} {
		if got := fold.Text(c.in); got != c.want {
			t.Errorf("Text(%q) is %q, not %q", c.in, got, c.want)
		}
	}
	all := every()
	once := fold.Text(all)
	if len(once) != len(all) || fold.Text(once) != once {
		t.Error("what is folded must stay as it is, with as many bytes")
	}
}

func TestSameAndCompare(t *testing.T) {
	for _, c := range []struct {
		a, b string
		want int
	}{
		{"", "", 0}, {"", "a", -1}, {"a", "", 1}, {"a", "A", 0}, {"Nick[", "nICK{", 0}, {"~", "^", 0},
		{"a", "B", -1}, {"b", "A", 1}, {"a", "ab", -1}, {"AB", "a", 1}, {"Z", "[", -1}, {"]", "^", 1},
		{"a\xff", "a\x00", 1}, {"^", "_", -1}, {"_", "a", -1}, {"[", "z", 1},
	} {
		if got := fold.Compare(c.a, c.b); got != c.want {
			t.Errorf("Compare(%q, %q) is %d, not %d", c.a, c.b, got, c.want)
		}
		if got := fold.Same(c.a, c.b); got != (c.want == 0) {
			t.Errorf("Same(%q, %q) is %v", c.a, c.b, got)
		}
	}
	for a := range 256 {
		for b := range 256 {
			x, y := string([]byte{byte(a)}), string([]byte{byte(b)})
			if got, want := fold.Compare(x, y), strings.Compare(fold.Text(x), fold.Text(y)); got != want {
				t.Fatalf("Compare(%q, %q) is %d, not %d", x, y, got, want)
			}
		}
	}
}

func TestPrefix(t *testing.T) {
	for _, c := range []struct {
		s, head string
		want    bool
	}{
		{"", "", true}, {"a", "", true}, {"", "a", false}, {"NickX", "nICK", true}, {"Nic", "nick", false},
		{"a[~", "A{^", true}, {"abc", "b", false}, {"abc", "abd", false}, {"abc", "ABC", true},
	} {
		if got := fold.Prefix(c.s, c.head); got != c.want {
			t.Errorf("Prefix(%q, %q) is %v", c.s, c.head, got)
		}
	}
}

func TestRuns(t *testing.T) {
	for _, c := range []struct {
		in   string
		want []string
	}{
		{"", nil}, {"a", []string{"a-"}}, {"ABc", []string{"AB+", "c-"}}, {"aB~[c", []string{"a-", "B~[+", "c-"}}, {"A", []string{"A+"}},
	} {
		runs := fold.Runs(c.in)
		if runs == nil {
			t.Fatalf("Runs(%q) is nil", c.in)
		}
		for range 2 {
			var got []string
			for piece, turned := range runs {
				if turned {
					got = append(got, piece+"+")
				} else {
					got = append(got, piece+"-")
				}
			}
			if !slices.Equal(got, c.want) {
				t.Errorf("Runs(%q) is %q, not %q", c.in, got, c.want)
			}
		}
	}
}

func TestRunsStops(t *testing.T) {
	for stop := 1; stop <= 3; stop++ {
		n := 0
		for range fold.Runs("AbC") {
			n++
			if n == stop {
				break
			}
		}
		if n != stop {
			t.Errorf("%d pieces, not %d", n, stop)
		}
	}
}

func TestRunsAreTheText(t *testing.T) {
	all, joined, last, first := every(), "", false, true
	for piece, turned := range fold.Runs(all) {
		if piece == "" || !first && turned == last {
			t.Errorf("%q isn't as long as can be", piece)
		}
		for i := range len(piece) {
			if (fold.Byte(piece[i]) != piece[i]) != turned {
				t.Errorf("%q isn't of one kind", piece)
			}
		}
		joined, last, first = joined+piece, turned, false
	}
	if joined != all {
		t.Error("the pieces aren't the text")
	}
}

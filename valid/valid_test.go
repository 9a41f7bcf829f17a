package valid_test

import (
	"strings"
	"testing"

	"rollcall/fold"
	"rollcall/valid"
)

const letters = "ABCDEFGHIJKLMNOPQRSTUVWXYZabcdefghijklmnopqrstuvwxyz"
const digits = "0123456789"
const signs = "[]\\_^{|}`"

// visible are the bytes from 21 to 7e.
func visible() string {
	var b []byte
	for c := byte(0x21); c <= 0x7e; c++ {
		b = append(b, c)
	}
	return string(b)
}

// but is a text without some bytes.
func but(s, without string) string {
	return strings.Map(func(r rune) rune {
		if strings.ContainsRune(without, r) {
			return -1
		}
		return r
	}, s)
}

// rule is which texts may be a kind of name: its first byte, the others, how many.
type rule struct {
	name        string
	may         func(string) bool
	first       string // bytes that may stand first
	other       string // bytes that may stand behind it
	head        string // what a right text begins with
	least, most int
}

// rules are those of names whose bytes hang on nothing but their place.
func rules() []rule {
	seen := visible()
	return []rule{
		{"Nick", valid.Nick, letters + signs, letters + digits + signs + "-", "a", 1, 16},
		{"User", valid.User, but(seen, "!@*?:"), but(seen, "!@*?:"), "a", 1, 10},
		{"Host", valid.Host, letters + digits + ".-", letters + digits + ".-:", "a", 1, 63},
		{"Key", valid.Key, but(seen, ",:"), but(seen, ","), "a", 1, 23},
	}
}

func TestBytes(t *testing.T) {
	for _, r := range rules() {
		for b := range 256 {
			s := string([]byte{byte(b)})
			if got, want := r.may(s), strings.Contains(r.first, s); got != want {
				t.Errorf("%s(%q) is %v", r.name, s, got)
			}
			if got, want := r.may("a"+s), strings.Contains(r.other, s); got != want {
				t.Errorf("%s(%q) is %v", r.name, "a"+s, got)
			}
			if got, want := r.may("a"+s+"b"), strings.Contains(r.other, s); got != want {
				t.Errorf("%s(%q) is %v", r.name, "a"+s+"b", got)
			}
		}
	}
}

func TestLengths(t *testing.T) {
	for _, r := range rules() {
		for n := range 70 {
			if got, want := r.may(strings.Repeat("a", n)), n >= r.least && n <= r.most; got != want {
				t.Errorf("%s of %d bytes is %v", r.name, n, got)
			}
		}
	}
}

func TestChannel(t *testing.T) {
	for n := range 60 {
		if got, want := valid.Channel("#"+strings.Repeat("a", n)), n >= 1 && n <= 49; got != want {
			t.Errorf("of %d bytes: %v", n+1, got)
		}
	}
	for b := range 256 {
		s := string([]byte{byte(b)})
		want := !strings.Contains("\x00\x07\x0a\x0d ,:", s)
		if got := valid.Channel("#" + s); got != want {
			t.Errorf("Channel(%q) is %v", "#"+s, got)
		}
		if got := valid.Channel(s + "a"); got != (s == "#") {
			t.Errorf("Channel(%q) is %v", s+"a", got)
		}
	}
	if valid.Channel("") || valid.Channel("#") || valid.Channel("&a") || !valid.Channel("##") || !valid.Channel("#\xff!") {
		t.Error("edges")
	}
}

func TestServer(t *testing.T) {
	for s, want := range map[string]bool{
		"irc.x": true, "a.": true, "a.b.c": true, "a-1.b": true, "": false, "irc": false, ".a": false, "1.a": false, "-.a": false,
		"a.b:1": false, ":a.b": false, "a.b_": false, "a b.c": false,
		"a." + strings.Repeat("b", 61): true, "a." + strings.Repeat("b", 62): false,
	} {
		if got := valid.Server(s); got != want {
			t.Errorf("Server(%q) is %v", s, got)
		}
	}
}

func TestExamples(t *testing.T) {
	if !valid.Nick("a-b") || valid.Nick("-a") || valid.Nick("1a") || valid.Nick("~a") || valid.Nick("") || !valid.Channel("#a") || valid.Channel("#") {
		t.Error("examples")
	}
	if !valid.Host("::1"[2:]) || valid.Host("::1") || !valid.Host("a::1") || valid.Host("a_b") {
		t.Error("hosts")
	}
}

func TestText(t *testing.T) {
	for b := range 256 {
		s := string([]byte{byte(b)})
		want := s != "\x00" && s != "\r" && s != "\n"
		if valid.Text(s) != want || valid.Text("a"+s+"b") != want {
			t.Errorf("Text(%q) isn't %v", s, want)
		}
	}
	if !valid.Text("") {
		t.Error("the empty text is a line's")
	}
}

func TestClean(t *testing.T) {
	for _, c := range []struct {
		s    string
		most int
		want string
	}{
		{"", 5, ""}, {"abc", 5, "abc"}, {"abc", 3, "abc"}, {"abc", 2, "ab"}, {"abc", 0, ""}, {"abc", -1, ""}, {"abc", -1 << 63, ""},
		{"a\x00b\rc\nd", 9, "abcd"}, {"\r\n\x00abc", 2, "ab"}, {"\x07\xff b", 1<<63 - 1, "\x07\xff b"}, {"a\n", 1, "a"},
	} {
		got := valid.Clean(c.s, c.most)
		if got != c.want || !valid.Text(got) {
			t.Errorf("Clean(%q, %d) is %q", c.s, c.most, got)
		}
	}
}

func TestAlikeToANickname(t *testing.T) {
	for b := range 256 {
		s := "a" + string([]byte{byte(b)})
		if b != '~' && valid.Nick(s) != valid.Nick(fold.Text(s)) {
			t.Errorf("%q and its folded text aren't both nicknames", s)
		}
	}
	if valid.Nick("a~") || !valid.Nick("a^") {
		t.Error("~ is in no nickname")
	}
}

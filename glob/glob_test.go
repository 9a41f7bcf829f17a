package glob_test

import (
	"strings"
	"testing"

	"rollcall/fold"
	"rollcall/glob"
)

// means is P4.1 word by word: what a star stands for is tried out.
func means(mask, s string) bool {
	if mask == "" {
		return s == ""
	}
	if mask[0] == '*' {
		for n := 0; n <= len(s); n++ {
			if means(mask[1:], s[n:]) {
				return true
			}
		}
		return false
	}
	return s != "" && (mask[0] == '?' || fold.Byte(mask[0]) == fold.Byte(s[0])) && means(mask[1:], s[1:])
}

// rows are all texts of some bytes, of at most so many.
func rows(of string, most int) []string {
	all, last := []string{""}, []string{""}
	for range most {
		var next []string
		for _, s := range last {
			for i := range len(of) {
				next = append(next, s+of[i:i+1])
			}
		}
		all, last = append(all, next...), next
	}
	return all
}

func TestMatchOfAll(t *testing.T) {
	texts := rows("aB", 5)
	for _, mask := range rows("Ab*?", 5) {
		short := glob.Short(mask)
		for _, s := range texts {
			want := means(mask, s)
			if got := glob.Match(mask, s); got != want {
				t.Fatalf("Match(%q, %q) is %v", mask, s, got)
			}
			if got := glob.Match(short, s); got != want {
				t.Fatalf("Match(%q, %q), short of %q, is %v", short, s, mask, got)
			}
		}
	}
}

func TestMatch(t *testing.T) {
	for _, c := range []struct {
		mask, s string
		want    bool
	}{
		{"", "", true}, {"", "a", false}, {"*", "", true}, {"?", "", false}, {"?", "\xff", true}, {"[a]~", "{A}^", true},
		{"a*b", "ab", true}, {"a*b", "axxb", true}, {"a*b", "axxbc", false}, {"*.de", "x.DE", true}, {"*a*b*c*", "xaybzc", true},
		{"a?c", "abbc", false}, {"a", "*", false}, {"*\\?", "|x", true}, {"a**", "a", true}, {"*?", "", false}, {"a~", "a", false}, {"a*~", "a", false},
	} {
		if got := glob.Match(c.mask, c.s); got != c.want {
			t.Errorf("Match(%q, %q) is %v", c.mask, c.s, got)
		}
	}
	long := strings.Repeat("a", 3000)
	if glob.Match(strings.Repeat("*a", 40)+"b", long) || !glob.Match(strings.Repeat("*a", 40)+"*", long) {
		t.Error("long ones")
	}
}

func TestWildAndAny(t *testing.T) {
	if glob.Wild("") || glob.Wild("abc!@~") || !glob.Wild("a*") || !glob.Wild("?b") {
		t.Error("Wild")
	}
	if glob.Any("a") || glob.Any("a", "b", "c") || !glob.Any("a", "b", "A") || !glob.Any("a", "*") || glob.Any("") || !glob.Any("", "x", "") {
		t.Error("Any")
	}
}

func TestComplete(t *testing.T) {
	for mask, want := range map[string]string{
		"": "*!*@*", "bob": "bob!*@*", "u@h": "*!u@h", "a!b": "a!b@*", "a!b@c": "a!b@c", "!": "*!*@*", "@": "*!*@*", "!@": "*!*@*",
		"a!": "a!*@*", "!b": "*!b@*", "@h": "*!*@h", "u@": "*!u@*", "a!@c": "a!*@c", "a!b!c@d": "a!b!c@d", "a!b@c@d": "a!b@c@d",
		"u@h!x": "*!u@h!x", "@!": "*!*@!", "a!b@c!d": "a!b@c!d", "*": "*!*@*", "a b": "a b!*@*", "u@h@i": "*!u@h@i",
	} {
		if got := glob.Complete(mask); got != want {
			t.Errorf("Complete(%q) is %q, not %q", mask, got, want)
		}
	}
	for _, mask := range rows("a!@", 6) {
		whole := glob.Complete(mask)
		if _, _, _, ok := glob.Cut(whole); !ok || glob.Complete(whole) != whole {
			t.Errorf("Complete(%q) is %q, which is no whole mask", mask, whole)
		}
	}
}

func TestCut(t *testing.T) {
	for _, c := range []struct {
		mask string
		want [3]string
		ok   bool
	}{
		{"a!b@c", [3]string{"a", "b", "c"}, true}, {"*!*@*", [3]string{"*", "*", "*"}, true},
		{"a!b!c@d", [3]string{"a", "b!c", "d"}, true}, {"a!b@c@!d", [3]string{"a", "b", "c@!d"}, true},
		{"", [3]string{}, false}, {"a", [3]string{}, false}, {"a!b", [3]string{}, false}, {"a@b", [3]string{}, false},
		{"!b@c", [3]string{}, false}, {"a!@c", [3]string{}, false}, {"a!b@", [3]string{}, false}, {"a@x!b@c", [3]string{}, false},
	} {
		nick, user, host, ok := glob.Cut(c.mask)
		if got := [3]string{nick, user, host}; got != c.want || ok != c.ok {
			t.Errorf("Cut(%q) is %q, %v", c.mask, got, ok)
		}
	}
}

func TestHits(t *testing.T) {
	for _, c := range []struct {
		mask string
		want bool
	}{
		{"ann", true}, {"ANN", true}, {"bob", false}, {"u@h", true}, {"a*!?@h", true}, {"*@i", false}, {"", true}, {"ann!u@h", true},
		{"ann!u@h.x", false}, {"nn", false},
	} {
		if got := glob.Hits(c.mask, "ann", "u", "h"); got != c.want {
			t.Errorf("Hits(%q) is %v", c.mask, got)
		}
	}
}

func TestShort(t *testing.T) {
	for mask, want := range map[string]string{
		"": "", "abc": "abc", "*?**?": "??*", "**": "*", "*?": "?*", "?*": "?*", "a**b*?c": "a*b?*c", "*a?*": "*a?*", "***?x?***": "?*x?*",
	} {
		if got := glob.Short(mask); got != want {
			t.Errorf("Short(%q) is %q, not %q", mask, got, want)
		}
	}
	for _, mask := range rows("a*?", 7) {
		short := glob.Short(mask)
		if strings.Contains(short, "**") || strings.Contains(short, "*?") || glob.Short(short) != short {
			t.Errorf("Short(%q) is %q", mask, short)
		}
	}
}

package tags_test

import (
	"slices"
	"strconv"
	"strings"
	"testing"

	"rollcall/api"
	"rollcall/tags"
)

// list are n tags of different names.
func list(n int) []api.Tag {
	var l []api.Tag
	for i := range n {
		l = append(l, api.Tag{Name: "t" + strconv.Itoa(i), Value: strconv.Itoa(i)})
	}
	return l
}

// row is the tags' text of n tags of different names.
func row(n int) string {
	var l []string
	for i := range n {
		l = append(l, "t"+strconv.Itoa(i)+"="+strconv.Itoa(i))
	}
	return strings.Join(l, ";")
}

func TestEscape(t *testing.T) {
	for v, want := range map[string]string{
		"": "", "abc": "abc", ";": `\:`, " ": `\s`, `\`: `\\`, "\r": `\r`, "\n": `\n`, "a; b\\s": `a\:\sb\\s`, "\x00\xff=:": "\x00\xff=:",
	} {
		if got := tags.Escape(v); got != want {
			t.Errorf("Escape(%q) is %q, not %q", v, got, want)
		}
	}
}

func TestUnescape(t *testing.T) {
	for s, want := range map[string]string{
		"": "", "abc": "abc", `\:`: ";", `\s`: " ", `\\`: `\`, `\r`: "\r", `\n`: "\n", `\`: "", `a\`: "a", `\\\`: `\`, `\b\x\"`: `bx"`,
		`\\s`: `\s`, `\S\R`: "SR", `\;`: ";", "\\ ": " ", `a\\:b`: `a\:b`, "\\\xff": "\xff",
	} {
		if got := tags.Unescape(s); got != want {
			t.Errorf("Unescape(%q) is %q, not %q", s, got, want)
		}
	}
	for a := range 256 {
		for b := range 256 {
			v := string([]byte{byte(a), byte(b), '\\', byte(a)})
			if got := tags.Unescape(tags.Escape(v)); got != v {
				t.Fatalf("%q came back as %q", v, got)
			}
		}
	}
}

func TestParse(t *testing.T) {
	for s, want := range map[string][]api.Tag{
		`a=b\sc;+d`: {{Name: "a", Value: "b c"}, {Name: "+d"}},
		"a":         {{Name: "a"}}, "a=": {{Name: "a"}}, "a=b=c": {{Name: "a", Value: "b=c"}},
		"a=1;b=2;a=3": {{Name: "a", Value: "3"}, {Name: "b", Value: "2"}},
		"a=1;a":       {{Name: "a"}},
		"a=1;A=2":     {{Name: "a", Value: "1"}, {Name: "A", Value: "2"}},
		`x/Y-z.0+=\`:  {{Name: "x/Y-z.0+"}},
		"a=\xff,:@!":  {{Name: "a", Value: "\xff,:@!"}},
		row(16):       list(16),
	} {
		if got, e := tags.Parse(s); e != api.OK || !slices.Equal(got, want) {
			t.Errorf("Parse(%q) is %v, %d", s, got, e)
		}
	}
	if got, e := tags.Parse(row(16) + ";t3=x"); e != api.OK || len(got) != 16 || got[3].Value != "x" {
		t.Errorf("17 tags of 16 names: %v, %d", got, e)
	}
}

func TestParseErrors(t *testing.T) {
	for s, want := range map[string]api.Errno{
		"": api.ErrEmpty, ";": api.ErrEmpty, "a;": api.ErrEmpty, ";a": api.ErrEmpty, "=x": api.ErrEmpty, "a;;b": api.ErrEmpty, "=\x00": api.ErrEmpty,
		"a b": api.ErrByte, "a_": api.ErrByte, "\xe4": api.ErrByte, "a=\x00": api.ErrByte, "a=\r": api.ErrByte, "a=\n": api.ErrByte, "a= ": api.ErrByte,
		"a=b ;": api.ErrByte, ";a_": api.ErrEmpty, "a_;": api.ErrByte, "@a": api.ErrByte,
		row(17): api.ErrFull, row(17) + ";": api.ErrEmpty, row(17) + ";_": api.ErrByte,
	} {
		if got, e := tags.Parse(s); e != want || len(got) != 0 {
			t.Errorf("Parse(%q) is %v, %d, not %d", s, got, e, want)
		}
	}
	for b := range 256 {
		name := string([]byte{byte(b)})
		want := api.ErrByte
		if strings.Contains("ABCDEFGHIJKLMNOPQRSTUVWXYZabcdefghijklmnopqrstuvwxyz0123456789-/+.", name) {
			want = api.OK
		} else if name == ";" || name == "=" {
			want = api.ErrEmpty
		}
		if _, e := tags.Parse(name); e != want {
			t.Errorf("Parse(%q): %d, not %d", name, e, want)
		}
	}
}

func TestCheck(t *testing.T) {
	for i, c := range []struct {
		l    []api.Tag
		want api.Errno
	}{
		{nil, api.ErrEmpty}, {[]api.Tag{}, api.ErrEmpty}, {[]api.Tag{{Name: ""}}, api.ErrEmpty}, {[]api.Tag{{Name: "a"}}, api.OK},
		{[]api.Tag{{Name: "a", Value: "\r\n ;\\\xff"}}, api.OK}, {[]api.Tag{{Name: "a", Value: "x\x00"}}, api.ErrByte},
		{[]api.Tag{{Name: "a=b"}}, api.ErrByte}, {[]api.Tag{{Name: "a;"}}, api.ErrByte}, {[]api.Tag{{Name: "a"}, {Name: "a"}}, api.ErrThere},
		{[]api.Tag{{Name: "a"}, {Name: "A"}}, api.OK}, {[]api.Tag{{Name: "a"}, {Name: "a", Value: "\x00"}}, api.ErrByte},
		{[]api.Tag{{Name: "a"}, {Name: "a"}, {Name: ""}}, api.ErrThere}, {list(16), api.OK}, {list(17), api.ErrFull},
		{append(list(17), api.Tag{Name: "t0"}), api.ErrThere}, {[]api.Tag{{Name: " "}, {Name: ""}}, api.ErrByte},
	} {
		if got := tags.Check(c.l); got != c.want {
			t.Errorf("%d: %d, not %d", i, got, c.want)
		}
		if text := tags.Text(c.l); (text == "") != (c.want != api.OK) {
			t.Errorf("%d: the text is %q", i, text)
		}
	}
}

func TestText(t *testing.T) {
	for want, l := range map[string][]api.Tag{
		`a=b\sc;+d`: {{Name: "a", Value: "b c"}, {Name: "+d"}},
		"a":         {{Name: "a"}},
		`a=\\=`:     {{Name: "a", Value: `\=`}},
		row(16):     list(16),
	} {
		if got := tags.Text(l); got != want {
			t.Errorf("Text(%v) is %q, not %q", l, got, want)
		}
	}
	for b := range 255 {
		l := []api.Tag{{Name: "a", Value: string([]byte{byte(b + 1), 's'})}, {Name: "b", Value: string([]byte{'\\', byte(b + 1)})}}
		if got, e := tags.Parse(tags.Text(l)); e != api.OK || !slices.Equal(got, l) {
			t.Errorf("%v came back as %v, %d", l, got, e)
		}
	}
}

func TestGet(t *testing.T) {
	l := []api.Tag{{Name: "a", Value: "1"}, {Name: "b"}, {Name: "a", Value: "2"}}
	if v, ok := tags.Get(l, "a"); v != "1" || !ok {
		t.Errorf("a: %q, %v", v, ok)
	}
	if v, ok := tags.Get(l, "b"); v != "" || !ok {
		t.Errorf("b: %q, %v", v, ok)
	}
	for _, name := range []string{"A", "", "c"} {
		if v, ok := tags.Get(l, name); v != "" || ok {
			t.Errorf("%q: %q, %v", name, v, ok)
		}
	}
	if _, ok := tags.Get(nil, ""); ok {
		t.Error("of no tags")
	}
}

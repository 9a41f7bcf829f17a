package script_test

import (
	"bytes"
	"slices"
	"strings"
	"testing"

	"rollcall/api"
	"rollcall/config"
	"rollcall/script"
)

// usual is the usual configuration, with another name.
func usual() api.Config {
	c := config.Usual()
	c.Name = "irc.x"
	return c
}

func TestQuote(t *testing.T) {
	for s, want := range map[string]string{
		"": `""`, "abc": `"abc"`, "PING x\r\n": `"PING x\r\n"`, `"\`: `"\"\\"`, "\x00\t\x1f\x7f\x80\xff": `"\x00\x09\x1f\x7f\x80\xff"`, " ~'": `" ~'"`, "ä": `"\xc3\xa4"`, "rn": `"rn"`,
	} {
		if got := script.Quote([]byte(s)); got != want {
			t.Errorf("Quote(%q) is %s, not %s", s, got, want)
		}
		if got, ok := script.Unquote(want); string(got) != s || !ok {
			t.Errorf("Unquote(%s) is %q, %v", want, got, ok)
		}
	}
	for a := range 256 {
		for _, b := range []byte("a\"\\rnx0\n\xff") {
			s := []byte{byte(a), b, byte(a)}
			if got, ok := script.Unquote(script.Quote(s)); !ok || !bytes.Equal(got, s) {
				t.Fatalf("%q came back as %q", s, got)
			}
		}
	}
}

func TestNoQuotes(t *testing.T) {
	for _, s := range []string{
		"", `"`, `a`, `"a`, `a"`, `"a"b`, ` ""`, `"" `, `"""`, `"\"`, `"\a"`, `"\x"`, `"\x0"`, `"\x00`, `"\x41"`, `"\xFF"`, `"\xfg"`, `"\xg0"`, `"\xf"`, `"\x0a"`, `"\x0d"`, `"\x5c"`, `"\x22"`, "\"\n\"", "\"\xff\"", "\"\x7f\"", `'a'`, `"\ "`, `"\`, `\""`,
	} {
		if got, ok := script.Unquote(s); ok || len(got) != 0 {
			t.Errorf("Unquote(%q) is %q", s, got)
		}
	}
}

// equal tells whether two lists of events are the same.
func equal(a, b []api.Event) bool {
	return slices.EqualFunc(a, b, func(x, y api.Event) bool {
		return x.Kind == y.Kind && x.Id == y.Id && x.Host == y.Host && x.N == y.N && bytes.Equal(x.B, y.B)
	})
}

func TestParse(t *testing.T) {
	text := "# a script\n\nconnect 1 h\nconnect 999999999  a b\r\nsend 0 \"PING x\\n\"\n#x\nsend 1 \"\"\ndrain 1 99\ndrain 0 0\nclose 1\ntick"
	want := []api.Event{
		{Kind: api.EvConnect, Id: 1, Host: "h"}, {Kind: api.EvConnect, Id: 999999999, Host: " a b\r"}, {Kind: api.EvBytes, B: []byte("PING x\n")}, {Kind: api.EvBytes, Id: 1},
		{Kind: api.EvDrain, Id: 1, N: 99}, {Kind: api.EvDrain}, {Kind: api.EvClose, Id: 1}, {Kind: api.EvTick},
	}
	for _, text := range []string{text, text + "\n", text + "\n\n#", "\n" + text} {
		if l, n, e := script.Parse(text); !equal(l, want) || n != 0 || e != api.OK {
			t.Errorf("%v, %d, %d", l, n, e)
		}
	}
	for _, text := range []string{"", "\n", "#", "\n#tick\n\n"} {
		if l, n, e := script.Parse(text); len(l) != 0 || n != 0 || e != api.OK {
			t.Errorf("Parse(%q): %v, %d, %d", text, l, n, e)
		}
	}
}

func TestParseErrors(t *testing.T) {
	for line, want := range map[string]api.Errno{
		"x": api.ErrKind, " tick": api.ErrKind, " ": api.ErrKind, "Tick": api.ErrKind, "tick\r": api.ErrKind, "connect\t1 h": api.ErrKind, "ticktick": api.ErrKind, " # x": api.ErrKind, "\x00": api.ErrKind,
		"tick ": api.ErrForm, "tick x": api.ErrForm, "close": api.ErrForm, "close ": api.ErrForm, "close  1": api.ErrForm, "close 1 ": api.ErrForm, "close 01": api.ErrForm, "close 00": api.ErrForm, "close -1": api.ErrForm, "close +1": api.ErrForm,
		"close 1234567890": api.ErrForm, "close 1x": api.ErrForm, "close 1~": api.ErrForm, "close ~": api.ErrForm, "close 1:": api.ErrForm, "close 1/": api.ErrForm, "close x": api.ErrForm, "close 1\r": api.ErrForm, "connect 1": api.ErrForm, "connect 1 ": api.ErrForm, "connect": api.ErrForm, "connect h": api.ErrForm, "connect 1h": api.ErrForm, "connect  1 h": api.ErrForm,
		"drain 1": api.ErrForm, "drain 1 ": api.ErrForm, "drain 1 2 ": api.ErrForm, "drain 1  2": api.ErrForm, "drain 1 2 3": api.ErrForm, "drain 1 02": api.ErrForm, "drain 1 -2": api.ErrForm, "drain 1 1234567890": api.ErrForm,
		"send 1": api.ErrForm, "send 1 ": api.ErrForm, "send 1 x": api.ErrForm, "send 1 \"x": api.ErrForm, "send 1  \"x\"": api.ErrForm, "send 1 \"x\" ": api.ErrForm, "send 1\"x\"": api.ErrForm, `send 1 "\x41"`: api.ErrForm, "send \"x\"": api.ErrForm,
	} {
		for ahead, number := range map[string]int{"": 1, "tick\n": 2, "#x\n\n": 3} {
			for _, behind := range []string{"", "\n", "\nx y\n"} {
				if l, n, e := script.Parse(ahead + line + behind); len(l) != 0 || n != number || e != want {
					t.Errorf("%q: %v, %d, %d", ahead+line+behind, l, n, e)
				}
			}
		}
	}
}

func TestText(t *testing.T) {
	l := []api.Event{
		{Kind: api.EvConnect, Id: 1, Host: "h"}, {Kind: api.EvConnect, Host: " #\"\xff\x00"}, {Kind: api.EvBytes, Id: 999999999, B: []byte("a\"\\\r\n\x00\xffz")}, {Kind: api.EvBytes, B: []byte{}},
		{Kind: api.EvDrain, Id: 5, N: 999999999}, {Kind: api.EvDrain}, {Kind: api.EvClose, Id: 10}, {Kind: api.EvTick},
	}
	want := "connect 1 h\nconnect 0  #\"\xff\x00\nsend 999999999 \"a\\\"\\\\\\r\\n\\x00\\xffz\"\nsend 0 \"\"\ndrain 5 999999999\ndrain 0 0\nclose 10\ntick\n"
	text, ok := script.Text(l)
	if text != want || !ok {
		t.Errorf("%q, %v", text, ok)
	}
	if back, _, e := script.Parse(text); e != api.OK || !equal(back, l) {
		t.Errorf("%v, %d", back, e)
	}
	if text, ok := script.Text(nil); text != "" || !ok {
		t.Errorf("of nothing: %q, %v", text, ok)
	}
}

func TestWhatNoLineSays(t *testing.T) {
	for i, e := range []api.Event{
		{}, {Kind: 6}, {Kind: -1}, {Kind: api.EvTick, Id: 1}, {Kind: api.EvTick, Host: "h"}, {Kind: api.EvTick, N: 1}, {Kind: api.EvTick, B: []byte("x")},
		{Kind: api.EvConnect, Id: 1}, {Kind: api.EvConnect, Id: -1, Host: "h"}, {Kind: api.EvConnect, Id: 1000000000, Host: "h"}, {Kind: api.EvConnect, Host: "h\n"}, {Kind: api.EvConnect, Host: "\nh"}, {Kind: api.EvConnect, Host: "h\n#"}, {Kind: api.EvConnect, Host: "h\ntick"},
		{Kind: api.EvConnect, Host: "h", N: 1}, {Kind: api.EvConnect, Host: "h", B: []byte("x")}, {Kind: api.EvBytes, Id: -1}, {Kind: api.EvBytes, Host: "h"}, {Kind: api.EvBytes, N: 1},
		{Kind: api.EvDrain, N: -1}, {Kind: api.EvDrain, N: 1000000000}, {Kind: api.EvDrain, Id: -5}, {Kind: api.EvDrain, Host: "h"}, {Kind: api.EvDrain, B: []byte("x")}, {Kind: api.EvClose, Id: -1}, {Kind: api.EvClose, N: 1}, {Kind: api.EvClose, Host: "h"},
		{Kind: api.EvClose, Id: 1<<63 - 1}, {Kind: api.EvDrain, N: -1 << 63},
	} {
		if text, ok := script.Text([]api.Event{{Kind: api.EvTick}, e, {Kind: api.EvTick}}); text != "" || ok {
			t.Errorf("%d: %q", i, text)
		}
	}
}

func TestPlay(t *testing.T) {
	for text, want := range map[string][]string{
		"connect 1 h\nsend 1 \"PING x\\n\"\ndrain 1 99\n": {`1 ":irc.x PONG irc.x x\r\n"`}, "": nil, "tick\n": nil, "drain 1 5": nil,
		"connect 1 h\nsend 1 \"PING x\\nPING \\xff\\n\"\ndrain 1 3\ndrain 1 0\ndrain 2 9\ndrain 1 99\ndrain 1 99": {`1 ":ir"`, `1 "c.x PONG irc.x x\r\n:irc.x PONG irc.x \xff\r\n"`},
		"connect 1 h\nsned 1 \"\"\n": {"line 2 error 8"}, "\n\nclose": {"line 3 error 4"},
	} {
		if got := script.Play(usual(), text); !slices.Equal(got, want) {
			t.Errorf("Play(%q): %q", text, got)
		}
	}
	for _, text := range []string{"", "tick\n"} {
		if got := script.Play(api.Config{}, text); !slices.Equal(got, []string{"error 4"}) {
			t.Errorf("%q", got)
		}
	}
	c := usual()
	c.Reg = 0
	if got := script.Play(c, "connect 1 h"); !slices.Equal(got, []string{"error 2"}) {
		t.Errorf("%q", got)
	}
	if got := script.Play(c, "x"); !slices.Equal(got, []string{"line 1 error 8"}) {
		t.Errorf("%q", got)
	}
}

func TestRows(t *testing.T) {
	b := []byte("PING x\n")
	l := []api.Event{{Kind: api.EvConnect, Id: 1, Host: "h"}, {Kind: api.EvBytes, Id: 1, B: b}, {Kind: api.EvDrain, Id: 1, N: 5}, {Kind: api.EvDrain, Id: 1, N: 99}}
	seq := script.Rows(usual(), l)
	if seq == nil {
		t.Fatal("it is nil")
	}
	b[5], l[0] = 'y', api.Event{}
	for range 2 {
		if got := slices.Collect(seq); !slices.Equal(got, []string{`1 ":irc."`, `1 "x PONG irc.x x\r\n"`}) {
			t.Errorf("%q", got)
		}
	}
	for row := range seq {
		if row != `1 ":irc."` {
			t.Errorf("%q", row)
		}
		break
	}
	for row := range script.Rows(api.Config{}, l) {
		if row != "error 4" {
			t.Errorf("%q", row)
		}
		break
	}
}

func TestALongerScript(t *testing.T) {
	text := strings.Join([]string{
		`connect 1 h`, `connect 2 g`, `send 1 "NICK ann\r\nUSER u 0 * r\r\n"`, `send 2 "NICK bob\r\nUSER v 0 * s\r\nCAP REQ away-notify\r\n"`, `drain 1 9999`, `drain 2 9999`,
		`send 1 "JOIN #a\n"`, `drain 1 9999`, `send 2 "JOIN #a\n"`, `drain 2 9999`, `drain 1 9999`, `send 1 "AWAY out\n"`, `drain 2 9999`, `send 1 "AWAY out\n"`, `drain 2 9999`, `close 1`, `drain 2 9999`, ``,
	}, "\n")
	got := script.Play(usual(), text)
	want := []string{
		`1 ":ann!u@h JOIN #a\r\n:irc.x 353 ann = #a @ann\r\n:irc.x 366 ann #a :End of NAMES list\r\n"`,
		`2 ":bob!v@g JOIN #a\r\n:irc.x 353 bob = #a :@ann bob\r\n:irc.x 366 bob #a :End of NAMES list\r\n"`,
		`1 ":bob!v@g JOIN #a\r\n"`,
		`2 ":ann!u@h AWAY out\r\n"`,
		`2 ":ann!u@h QUIT :Connection closed\r\n"`,
	}
	if len(got) != 7 || !slices.Equal(got[2:], want) {
		t.Errorf("%q", got)
	}
}

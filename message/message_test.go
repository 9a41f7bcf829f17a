package message_test

import (
	"slices"
	"strings"
	"testing"

	"rollcall/api"
	"rollcall/message"
)

// msg is a message without tags.
func msg(prefix, command string, params ...string) api.Msg {
	return api.Msg{Prefix: prefix, Command: command, Params: params}
}

// tagged is a message with one tag.
func tagged(m api.Msg, name, value string) api.Msg {
	m.Tags = []api.Tag{{Name: name, Value: value}}
	return m
}

// many are n parameters.
func many(n int) []string {
	return slices.Repeat([]string{"p"}, n)
}

func TestParse(t *testing.T) {
	for line, want := range map[string]api.Msg{
		"@a=b :x!y@z privmsg #c :hi there":    tagged(msg("x!y@z", "PRIVMSG", "#c", "hi there"), "a", "b"),
		"PING":                                msg("", "PING"),
		"ping   x  ":                          msg("", "PING", "x"),
		"pInG x :":                            msg("", "PING", "x", ""),
		"az ~a  ~b":                           msg("", "AZ", "~a", "~b"),
		"909 ~":                               msg("", "909", "~"),
		"PING :":                              msg("", "PING", ""),
		"PING ::x":                            msg("", "PING", ":x"),
		"PING a:b :c :d ":                     msg("", "PING", "a:b", "c :d "),
		"001 x":                               msg("", "001", "x"),
		":p   A":                              msg("p", "A"),
		"::p A":                               msg(":p", "A"),
		"@a   :p   A   :  x ":                 tagged(msg("p", "A", "  x "), "a", ""),
		"@a=1;a=2 A":                          tagged(msg("", "A"), "a", "2"),
		`@a=\s A`:                             tagged(msg("", "A"), "a", " "),
		"A \xff\x07\t":                        msg("", "A", "\xff\x07\t"),
		"A" + strings.Repeat(" p", 14):        msg("", "A", many(14)...),
		"A" + strings.Repeat(" p", 14) + "  ": msg("", "A", many(14)...),
		"A" + strings.Repeat(" p", 14) + "  q r :s ": msg("", "A", append(many(14), "q r :s ")...),
		"A" + strings.Repeat(" p", 14) + " :q ":      msg("", "A", append(many(14), "q ")...),
		"A" + strings.Repeat(" p", 14) + " ::q":      msg("", "A", append(many(14), ":q")...),
		"A" + strings.Repeat(" p", 16):               msg("", "A", append(many(14), "p p")...),
		"A " + strings.Repeat("x", 508):              msg("", "A", strings.Repeat("x", 508)),
	} {
		if got, e := message.Parse(line); e != api.OK || !message.Same(got, want) {
			t.Errorf("Parse(%q) is %v, %d, not %v", line, got, e, want)
		}
	}
}

func TestParseErrors(t *testing.T) {
	for line, want := range map[string]api.Errno{
		"A " + strings.Repeat("x", 509): api.ErrLong, strings.Repeat("\x00", 511): api.ErrLong,
		"PING\x00": api.ErrByte, "PING x\r": api.ErrByte, "\n": api.ErrByte, "@ \x00": api.ErrByte,
		"@": api.ErrEmpty, "@ PING": api.ErrEmpty, "@; :": api.ErrEmpty, "@_ :": api.ErrByte, "@a;_": api.ErrByte,
		"@a;b;c;d;e;f;g;h;i;j;k;l;m;n;o;p;q A": api.ErrFull,
		":":                                    api.ErrEmpty, ": PING": api.ErrEmpty, "@a : PING": api.ErrEmpty,
		"": api.ErrEnd, "@a": api.ErrEnd, "@a  ": api.ErrEnd, ":x": api.ErrEnd, ":x  ": api.ErrEnd, "@a :x": api.ErrEnd,
		" PING": api.ErrForm, " ": api.ErrForm, " :x PING": api.ErrForm, "PING1": api.ErrForm, "01": api.ErrForm, "0001": api.ErrForm, "00a": api.ErrForm,
		"P-NG": api.ErrForm, ":x :y": api.ErrForm, ":x @a PING": api.ErrForm, "\xc0": api.ErrForm, "[": api.ErrForm, "`": api.ErrForm, "{": api.ErrForm, "A@": api.ErrForm, "00:": api.ErrForm, "/00": api.ErrForm,
	} {
		if got, e := message.Parse(line); e != want || !message.Same(got, api.Msg{}) {
			t.Errorf("Parse(%q) is %v, %d, not %d", line, got, e, want)
		}
	}
}

func TestCheck(t *testing.T) {
	long := strings.Repeat("x", 508)
	for i, c := range []struct {
		m    api.Msg
		want api.Errno
	}{
		{msg("", "A"), api.OK}, {msg("x", "001", "", ":a"), api.ErrEmpty}, {msg("x", "001", "b", ":a b"), api.OK},
		{tagged(msg("", "A"), "", ""), api.ErrEmpty}, {tagged(msg("\x00", ""), "_", ""), api.ErrByte}, {tagged(msg("", "A"), "a", "\x00"), api.ErrByte},
		{api.Msg{Tags: []api.Tag{{Name: "a"}, {Name: "a"}}, Command: "A"}, api.ErrThere}, {api.Msg{Tags: []api.Tag{}, Command: "A"}, api.OK},
		{msg("a b", "A"), api.ErrByte}, {msg("a\n", "A"), api.ErrByte}, {msg("", "A", "a\r"), api.ErrByte}, {msg("", "", "\x00"), api.ErrByte},
		{msg("", ""), api.ErrForm}, {msg("", "a"), api.ErrForm}, {msg("", "A1"), api.ErrForm}, {msg("", "12"), api.ErrForm}, {msg("", "1234"), api.ErrForm},
		{msg("", "A", many(15)...), api.OK}, {msg("", "A", many(16)...), api.ErrFull}, {msg("", "a", many(16)...), api.ErrForm},
		{msg("", "A", make([]string, 16)...), api.ErrFull},
		{msg("", "A", "", "b"), api.ErrEmpty}, {msg("", "A", "a", ""), api.OK}, {msg("", "A", ""), api.OK}, {msg("", "A", ":a", "", "b"), api.ErrEmpty},
		{msg("", "A", ":a", "b"), api.ErrKind}, {msg("", "A", "a b", "b"), api.ErrKind}, {msg("", "A", "a:b", "b"), api.OK},
		{msg("", "A", long), api.OK}, {msg("", "A", ":"+long[1:]), api.ErrLong}, {msg("", "A", long+"x"), api.ErrLong}, {msg("", "A", ":a", long), api.ErrKind},
		{tagged(msg("", "A", long[3:]), "a", ""), api.OK}, {tagged(msg("", "A", long[2:]), "a", ""), api.ErrLong}, {msg("p", "A", long[3:]), api.OK}, {msg("p", "A", long[2:]), api.ErrLong},
	} {
		got := message.Check(c.m)
		if got != c.want {
			t.Errorf("%d: %d, not %d", i, got, c.want)
		}
		text := message.Text(c.m)
		if (text == "") != (c.want != api.OK) || len(text) > 510 {
			t.Errorf("%d: the text is %q", i, text)
		}
		if back, e := message.Parse(text); c.want == api.OK && (e != api.OK || !message.Same(back, c.m)) {
			t.Errorf("%d: %q is read as %v, %d", i, text, back, e)
		}
	}
}

func TestText(t *testing.T) {
	for want, m := range map[string]api.Msg{
		"@a=b :x!y@z PRIVMSG #c :hi there": tagged(msg("x!y@z", "PRIVMSG", "#c", "hi there"), "a", "b"),
		"A":                                msg("", "A"),
		":p A b":                           msg("p", "A", "b"),
		"A :":                              msg("", "A", ""),
		"A b ::c":                          msg("", "A", "b", ":c"),
		"A b :c ":                          msg("", "A", "b", "c "),
		`@a=\s A`:                          tagged(msg("", "A"), "a", " "),
	} {
		if got := message.Text(m); got != want {
			t.Errorf("Text(%v) is %q, not %q", m, got, want)
		}
	}
}

func TestWrittenIsReadAsItWas(t *testing.T) {
	parts := []string{"", "a", ":", " ", "a:b", ": ", "\xff", "@a", "  "}
	n := 0
	for _, prefix := range []string{"", "p", ":", "@x!"} {
		for _, a := range parts {
			for _, b := range parts {
				for _, c := range parts {
					m := tagged(msg(prefix, "A", a, b, c), "t", a)
					if message.Check(m) != api.OK {
						continue
					}
					n++
					if back, e := message.Parse(message.Text(m)); e != api.OK || !message.Same(back, m) {
						t.Errorf("%v came back as %v, %d", m, back, e)
					}
				}
			}
		}
	}
	if n == 0 {
		t.Error("nothing may be written")
	}
}

func TestMake(t *testing.T) {
	for i, c := range []struct {
		prefix, command string
		params          []string
		want            string
	}{
		{"", "A", nil, "A"}, {"irc.x", "PONG", []string{"irc.x", "x"}, ":irc.x PONG irc.x x"}, {"p q\r\n\x00", "A", nil, ":p-q A"}, {"\r\n", "A", nil, "A"}, {" ", "A", nil, ":- A"},
		{"", "001", []string{"", "Hi there"}, "001 * :Hi there"}, {"", "A", []string{"\x00", ""}, "A * :"}, {"", "A", []string{"a b", "::c", ":", "\r:d", " :e", ":f"}, "A a-b -:c - -d -:e ::f"},
		{"", "A", []string{"b\nc d"}, "A :bc d"}, {"", "A", []string{"\n:b"}, "A ::b"}, {"", "A", []string{"\r"}, "A :"},
		{"", "a", nil, ""}, {"", "", nil, ""}, {"", "A1", nil, ""}, {"", "1", nil, ""}, {"", "A", many(15), "A" + strings.Repeat(" p", 15)}, {"", "A", many(16), ""},
		{"", "A", []string{strings.Repeat("x", 508)}, "A " + strings.Repeat("x", 508)}, {"", "A", []string{strings.Repeat("x", 600)}, "A " + strings.Repeat("x", 508)},
		{"", "A", []string{"b " + strings.Repeat("x", 600)}, "A :b " + strings.Repeat("x", 505)}, {strings.Repeat("y", 600), "A", []string{"b"}, ":" + strings.Repeat("y", 509)},
	} {
		if got := message.Make(c.prefix, c.command, c.params...); got != c.want {
			t.Errorf("%d: %q, not %q", i, got, c.want)
		}
	}
}

func TestMakeChangesNothing(t *testing.T) {
	params := []string{"", ":a b", "c\n"}
	message.Make("p", "A", params...)
	if !slices.Equal(params, []string{"", ":a b", "c\n"}) {
		t.Errorf("the parameters became %q", params)
	}
}

func TestParam(t *testing.T) {
	m := msg("", "A", "x", "")
	for n, want := range map[int]string{0: "x", 1: "", 2: "", -1: "", -1 << 63: "", 1<<63 - 1: ""} {
		if got := message.Param(m, n); got != want {
			t.Errorf("Param(%d) is %q", n, got)
		}
	}
}

func TestSame(t *testing.T) {
	m := tagged(msg("p", "A", "x", "y"), "a", "b")
	if !message.Same(m, tagged(msg("p", "A", "x", "y"), "a", "b")) || !message.Same(msg("", "A"), api.Msg{Tags: []api.Tag{}, Command: "A", Params: []string{}}) {
		t.Error("the same")
	}
	for i, other := range []api.Msg{
		tagged(msg("q", "A", "x", "y"), "a", "b"), tagged(msg("p", "B", "x", "y"), "a", "b"), tagged(msg("p", "A", "x"), "a", "b"), tagged(msg("p", "A", "y", "x"), "a", "b"),
		tagged(msg("p", "A", "x", "y"), "a", "c"), tagged(msg("p", "A", "x", "y"), "c", "b"), msg("p", "A", "x", "y"),
	} {
		if message.Same(m, other) || message.Same(other, m) {
			t.Errorf("%d is another one", i)
		}
	}
}

package sign_test

import (
	"slices"
	"strings"
	"testing"

	"rollcall/api"
	"rollcall/config"
	"rollcall/sign"
)

const every = "away-notify echo-message multi-prefix"

func TestCap(t *testing.T) {
	ann := api.Sign{Nick: "ann", Caps: 5, Pass: "p", User: "u", Real: "r"}
	done := api.Sign{Nick: "ann", Caps: 3, Done: true, Talking: true}
	for i, c := range []struct {
		before api.Sign
		params []string
		after  api.Sign
		line   string
	}{
		{api.Sign{}, []string{"REQ", "away-notify"}, api.Sign{Caps: 1, Talking: true}, ":irc.x CAP * ACK away-notify"},
		{api.Sign{}, []string{"LS", "302"}, api.Sign{Talking: true}, ":irc.x CAP * LS :" + every},
		{ann, []string{"ls"}, with(ann, func(s *api.Sign) { s.Talking = true }), ":irc.x CAP ann LS :" + every},
		{done, []string{"lS"}, with(done, func(s *api.Sign) { s.Talking = false }), ":irc.x CAP ann LS :" + every},
		{ann, []string{"LIST"}, ann, ":irc.x CAP ann LIST :away-notify multi-prefix"},
		{api.Sign{Talking: true}, []string{"list"}, api.Sign{Talking: true}, ":irc.x CAP * LIST :"},
		{done, []string{"List"}, done, ":irc.x CAP ann LIST :away-notify echo-message"},
		{ann, []string{"req", " -away-notify  echo-message "}, with(ann, func(s *api.Sign) { s.Talking, s.Caps = true, 6 }), ":irc.x CAP ann ACK : -away-notify  echo-message "},
		{ann, []string{"REQ", "-away-notify sasl"}, with(ann, func(s *api.Sign) { s.Talking = true }), ":irc.x CAP ann NAK :-away-notify sasl"},
		{ann, []string{"REQ"}, with(ann, func(s *api.Sign) { s.Talking = true }), ":irc.x CAP ann ACK :"},
		{done, []string{"REQ", "multi-prefix"}, with(done, func(s *api.Sign) { s.Talking, s.Caps = false, 7 }), ":irc.x CAP ann ACK multi-prefix"},
		{done, []string{"REQ", "x"}, with(done, func(s *api.Sign) { s.Talking = false }), ":irc.x CAP ann NAK x"},
		{api.Sign{Talking: true}, []string{"END"}, api.Sign{}, ""}, {ann, []string{"end"}, ann, ""}, {done, []string{"END"}, with(done, func(s *api.Sign) { s.Talking = false }), ""},
		{ann, nil, ann, ":irc.x 410 ann * :Invalid CAP command"}, {api.Sign{}, []string{"LS "}, api.Sign{}, ":irc.x 410 * LS- :Invalid CAP command"},
		{api.Sign{Talking: true}, []string{""}, api.Sign{Talking: true}, ":irc.x 410 * * :Invalid CAP command"}, {ann, []string{"L\u017f"}, ann, ":irc.x 410 ann L\u017f :Invalid CAP command"},
		{ann, []string{"acK", "LS"}, ann, ":irc.x 410 ann acK :Invalid CAP command"},
	} {
		after, lines := sign.Cap("irc.x", c.before, c.params)
		if after != c.after || strings.Join(lines, "\n") != c.line || (c.line == "") != (len(lines) == 0) {
			t.Errorf("%d: %v, %q, not %v, %q", i, after, lines, c.after, c.line)
		}
	}
}

// with is a sign, changed.
func with(s api.Sign, change func(*api.Sign)) api.Sign {
	change(&s)
	return s
}

func TestPass(t *testing.T) {
	for i, c := range []struct {
		before api.Sign
		params []string
		after  api.Sign
		line   string
	}{
		{api.Sign{}, []string{"a b", "c"}, api.Sign{Pass: "a b"}, ""}, {api.Sign{Pass: "x", Nick: "n"}, []string{""}, api.Sign{Nick: "n"}, ""},
		{api.Sign{Pass: "x"}, nil, api.Sign{Pass: "x"}, ":irc.x 461 * PASS :Not enough parameters"}, {api.Sign{Done: true, Nick: "n"}, nil, api.Sign{Done: true, Nick: "n"}, ":irc.x 462 n :You may not reregister"},
		{api.Sign{Done: true, Nick: "n"}, []string{"y"}, api.Sign{Done: true, Nick: "n"}, ":irc.x 462 n :You may not reregister"},
	} {
		if after, lines := sign.Pass("irc.x", c.before, c.params); after != c.after || strings.Join(lines, "\n") != c.line || (c.line == "") != (len(lines) == 0) {
			t.Errorf("%d: %v, %q", i, after, lines)
		}
	}
}

func TestUser(t *testing.T) {
	long := strings.Repeat("x", 101)
	for i, c := range []struct {
		before api.Sign
		params []string
		after  api.Sign
		line   string
	}{
		{api.Sign{}, []string{"u", "", "", "r\x00 s"}, api.Sign{User: "u", Real: "r s"}, ""}, {api.Sign{User: "x", Real: "y", Caps: 1}, []string{"u", "1", "2", long, "z"}, api.Sign{User: "u", Real: long[:100], Caps: 1}, ""},
		{api.Sign{}, []string{"u", "0", "*", ""}, api.Sign{User: "u"}, ""}, {api.Sign{}, []string{"u", "0", "*"}, api.Sign{}, ":irc.x 461 * USER :Not enough parameters"},
		{api.Sign{User: "x"}, []string{"a b", "0", "*", "r"}, api.Sign{User: "x"}, ":irc.x 468 * :Invalid username"}, {api.Sign{}, []string{"", "0", "*", "r"}, api.Sign{}, ":irc.x 468 * :Invalid username"},
		{api.Sign{}, []string{"a!", "0", "*"}, api.Sign{}, ":irc.x 461 * USER :Not enough parameters"}, {api.Sign{Nick: "n"}, []string{"elevenbytes", "0", "*", "r"}, api.Sign{Nick: "n"}, ":irc.x 468 n :Invalid username"},
		{api.Sign{Nick: "n", User: "x", Done: true}, []string{"u", "0", "*", "r"}, api.Sign{Nick: "n", User: "x", Done: true}, ":irc.x 462 n :You may not reregister"}, {api.Sign{Done: true}, nil, api.Sign{Done: true}, ":irc.x 462 * :You may not reregister"},
	} {
		if after, lines := sign.User("irc.x", c.before, c.params); after != c.after || strings.Join(lines, "\n") != c.line || (c.line == "") != (len(lines) == 0) {
			t.Errorf("%d: %v, %q", i, after, lines)
		}
	}
}

func TestReady(t *testing.T) {
	for i, c := range []struct {
		s    api.Sign
		want bool
	}{
		{api.Sign{}, false}, {api.Sign{Nick: "n"}, false}, {api.Sign{User: "u"}, false}, {api.Sign{Nick: "n", User: "u"}, true},
		{api.Sign{Nick: "n", User: "u", Talking: true}, false}, {api.Sign{Nick: "n", User: "u", Done: true}, false},
	} {
		if got := sign.Ready(c.s); got != c.want {
			t.Errorf("%d: %v", i, got)
		}
	}
}

func TestWelcome(t *testing.T) {
	c := config.Usual()
	c.Name = "irc.x"
	want := []string{
		":irc.x 001 ann :Welcome ann!u@h",
		":irc.x 004 ann irc.x rollcall io bklimnostv",
		":irc.x 005 ann :" + strings.Join(slices.Collect(config.Support(c)), " "),
		":irc.x 422 ann :MOTD File is missing",
	}
	if got := sign.Welcome(c, api.Sign{Nick: "ann", User: "u", Real: "r"}, "h"); !slices.Equal(got, want) {
		t.Errorf("%q, not %q", got, want)
	}
	if got := sign.Welcome(api.Config{}, api.Sign{}, ""); len(got) != 4 || got[0] != "001 * :Welcome !@" {
		t.Errorf("of nothing: %q", got)
	}
	if got := sign.Welcome(api.Config{Name: strings.Repeat("x", 400)}, api.Sign{Nick: "n"}, ""); len(got) < 5 {
		t.Errorf("of a long name: %d lines", len(got))
	}
}

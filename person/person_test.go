package person_test

import (
	"slices"
	"strings"
	"testing"

	"rollcall/api"
	"rollcall/person"
)

// ann is somebody.
func ann() api.Person {
	return api.Person{Id: 1, Nick: "ann", User: "u", Host: "h", Real: "Ann A", Signon: 3, Spoke: 5}
}

func TestWho(t *testing.T) {
	if got := person.Who(ann()); got != "ann!u@h" {
		t.Errorf("%q", got)
	}
}

func TestSeen(t *testing.T) {
	for i, c := range []struct {
		asker, p api.Person
		common   bool
		want     bool
	}{
		{api.Person{Id: 2}, api.Person{Id: 1}, false, true}, {api.Person{Id: 2}, api.Person{Id: 1, Hidden: true}, false, false}, {api.Person{Id: 2}, api.Person{Id: 1, Hidden: true}, true, true},
		{api.Person{Id: 2, Oper: true}, api.Person{Id: 1, Hidden: true}, false, true}, {api.Person{Id: 1}, api.Person{Id: 1, Hidden: true}, false, true}, {api.Person{Id: 2, Hidden: true}, api.Person{Id: 1, Hidden: true, Oper: true}, false, false},
	} {
		if got := person.Seen(c.asker, c.p, c.common); got != c.want {
			t.Errorf("%d: %v", i, got)
		}
	}
}

func TestMeets(t *testing.T) {
	p := api.Person{Nick: "Ann[", User: "uu", Host: "h.x", Real: "real"}
	for mask, want := range map[string]bool{"ann{": true, "u?": true, "*.X": true, "*": true, "real": false, "ann[!uu@h.x": false, "": false, "h": false} {
		if got := person.Meets(mask, p); got != want {
			t.Errorf("Meets(%q) is %v", mask, got)
		}
	}
}

func TestMarks(t *testing.T) {
	for i, c := range []struct {
		m         api.Member
		few, many string
	}{
		{api.Member{}, "", ""}, {api.Member{Op: true}, "@", "@"}, {api.Member{Voice: true}, "+", "+"}, {api.Member{Op: true, Voice: true}, "@", "@+"},
	} {
		if few, many := person.Marks(c.m, false), person.Marks(c.m, true); few != c.few || many != c.many {
			t.Errorf("%d: %q, %q", i, few, many)
		}
	}
}

func TestWhoLine(t *testing.T) {
	both := api.Member{Op: true, Voice: true}
	away := ann()
	away.Away, away.Oper, away.Real = "out", true, ""
	for i, c := range []struct{ got, want string }{
		{person.WhoLine("irc.x", "bob", "#a", ann(), both, false), ":irc.x 352 bob #a u h irc.x ann H@ :0 Ann A"}, {person.WhoLine("irc.x", "bob", "#a", ann(), both, true), ":irc.x 352 bob #a u h irc.x ann H@+ :0 Ann A"},
		{person.WhoLine("irc.x", "", "", away, api.Member{}, true), ":irc.x 352 * * u h irc.x ann G* :0 "}, {person.WhoLine("irc.x", "bob", "#a", away, api.Member{Voice: true}, true), ":irc.x 352 bob #a u h irc.x ann G*+ :0 "},
	} {
		if c.got != c.want {
			t.Errorf("%d: %q, not %q", i, c.got, c.want)
		}
	}
}

func TestWhois(t *testing.T) {
	p := ann()
	want := []string{":irc.x 311 bob ann u h * :Ann A", ":irc.x 312 bob ann irc.x rollcall", ":irc.x 317 bob ann 4 3 :seconds idle, signon time"}
	if got := person.Whois("irc.x", "bob", p, nil, 9); !slices.Equal(got, want) {
		t.Errorf("%q", got)
	}
	if got := person.Whois("irc.x", "bob", p, slices.Values([]string(nil)), 9); !slices.Equal(got, want) {
		t.Errorf("%q", got)
	}
	p.Away, p.Oper = "gone out", true
	want = []string{":irc.x 311 bob ann u h * :Ann A", ":irc.x 319 bob ann :@#a #b", ":irc.x 312 bob ann irc.x rollcall", ":irc.x 301 bob ann :gone out", ":irc.x 313 bob ann :is an IRC operator", ":irc.x 317 bob ann 0 3 :seconds idle, signon time"}
	if got := person.Whois("irc.x", "bob", p, slices.Values([]string{"@#a", "#b"}), 4); !slices.Equal(got, want) {
		t.Errorf("%q", got)
	}
	p.Away, p.Oper = "", false
	want = []string{":irc.x 311 bob ann u h * :Ann A", ":irc.x 319 bob ann #a", ":irc.x 312 bob ann irc.x rollcall", ":irc.x 317 bob ann 0 3 :seconds idle, signon time"}
	if got := person.Whois("irc.x", "bob", p, slices.Values([]string{"#a"}), 5); !slices.Equal(got, want) {
		t.Errorf("%q", got)
	}
	many := slices.Repeat([]string{"#" + strings.Repeat("x", 40)}, 30)
	if got := person.Whois("irc.x", "bob", p, slices.Values(many), 4); len(got) != 6 || !strings.HasPrefix(got[3], ":irc.x 319 bob ann :#xx") {
		t.Errorf("%d lines, %q", len(got), got)
	}
}

func TestIdleOfAnyNumbers(t *testing.T) {
	most, least := 1<<63-1, -1<<63
	for i, c := range []struct {
		now, spoke, signon int
		want               string
	}{
		{0, 0, 0, "0 0"}, {5, 6, 0, "0 0"}, {most, least, most, "18446744073709551615 9223372036854775807"}, {least, most, 7, "0 7"}, {-3, -8, 0, "5 0"}, {least, least, -4, "0 0"},
	} {
		p := api.Person{Nick: "n", Spoke: c.spoke, Signon: c.signon}
		lines := person.Whois("irc.x", "bob", p, nil, c.now)
		if got := lines[len(lines)-1]; got != ":irc.x 317 bob n "+c.want+" :seconds idle, signon time" {
			t.Errorf("%d: %q", i, got)
		}
	}
}

func TestWhowas(t *testing.T) {
	if got := person.Whowas("irc.x", "bob", ann()); !slices.Equal(got, []string{":irc.x 314 bob ann u h * :Ann A", ":irc.x 312 bob ann irc.x rollcall"}) {
		t.Errorf("%q", got)
	}
	if got := person.Whowas("irc.x", "", api.Person{}); !slices.Equal(got, []string{":irc.x 314 * * * * * :", ":irc.x 312 * * irc.x rollcall"}) {
		t.Errorf("%q", got)
	}
}

func TestUserhost(t *testing.T) {
	p := ann()
	if got := person.Userhost(p); got != "ann=+u@h" {
		t.Errorf("%q", got)
	}
	p.Away = "x"
	if got := person.Userhost(p); got != "ann=-u@h" {
		t.Errorf("%q", got)
	}
	p.Oper = true
	if got := person.Userhost(p); got != "ann*=-u@h" {
		t.Errorf("%q", got)
	}
}

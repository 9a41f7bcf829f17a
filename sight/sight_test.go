package sight_test

import (
	"iter"
	"slices"
	"strings"
	"testing"

	"rollcall/api"
	"rollcall/config"
	"rollcall/core"
	"rollcall/message"
	"rollcall/sight"
)

// world is a core, and what is asked of it by a test.
type world struct {
	*core.Core
	t *testing.T
}

// made is a world of the usual configuration, changed.
func made(t *testing.T, change func(*api.Config)) world {
	t.Helper()
	conf := config.Usual()
	conf.Name = "irc.x"
	if change != nil {
		change(&conf)
	}
	c, e := core.New(conf)
	if e != api.OK {
		t.Fatalf("New: %d", e)
	}
	return world{c, t}
}

// join connects and registers people, from 0 on.
func (w world) join(nicks ...string) world {
	for id, nick := range nicks {
		w.Connect(id, "h")
		w.SetSign(id, api.Sign{User: "u", Real: "r"})
		if !w.Claim(id, nick) || !w.Register(id) {
			w.t.Fatalf("%d can't be %s", id, nick)
		}
	}
	return w
}

// on puts people on a channel.
func (w world) on(name string, ids ...int) {
	for _, id := range ids {
		w.Rooms().Join(id, name)
	}
}

// caps gives somebody capabilities.
func (w world) caps(id, caps int) {
	s := w.Sign(id)
	s.Caps = caps
	w.SetSign(id, s)
}

// say does what a line says.
func (w world) say(id int, line string) {
	w.t.Helper()
	m, e := message.Parse(line)
	if e != api.OK || !sight.Do(w.Core, id, m) {
		w.t.Errorf("%d says %q: %d", id, line, e)
	}
}

// expect drains all that waits for somebody, and checks it.
func (w world) expect(id int, want ...string) {
	w.t.Helper()
	var got []string
	for line := range strings.SplitAfterSeq(string(w.Drain(id, 1<<40)), "\r\n") {
		if line != "" {
			got = append(got, strings.TrimSuffix(line, "\r\n"))
		}
	}
	if !slices.Equal(got, want) {
		w.t.Errorf("%d was told %q, not %q", id, got, want)
	}
}

// quiet drains all that waits for everybody.
func (w world) quiet() {
	for id := range w.Ids() {
		w.Drain(id, 1<<40)
	}
}

// be changes the person that somebody is.
func (w world) be(id int, change func(*api.Person)) {
	p, _ := w.Person(id)
	change(&p)
	w.SetPerson(p)
}

// secret makes a channel a secret one.
func (w world) secret(name string) {
	r, _ := w.Rooms().Get(name)
	r.Change(api.Change{On: true, Letter: 's'}, 0)
}

// hide hides somebody, and raise makes somebody an operator.
func hide(p *api.Person)  { p.Hidden = true }
func raise(p *api.Person) { p.Oper = true }

// turn sets the User and the Real of somebody's sign.
func (w world) turn(id int, user, real string) {
	s := w.Sign(id)
	s.User, s.Real = user, real
	w.SetSign(id, s)
}

func TestWhatIsSeenFollowsTheSign(t *testing.T) {
	w := made(t, nil).join("ann", "bob")
	w.on("#a", 1)
	w.turn(1, "v", "s s")
	for line, want := range map[string][]string{
		"USERHOST bob":  {":irc.x 302 ann bob=+v@h"},
		"WHO bob":       {":irc.x 352 ann * v h irc.x bob H :0 s s", ":irc.x 315 ann bob :End of WHO list"},
		"WHO v":         {":irc.x 352 ann * v h irc.x bob H :0 s s", ":irc.x 315 ann v :End of WHO list"},
		"WHO #a":        {":irc.x 352 ann #a v h irc.x bob H@ :0 s s", ":irc.x 315 ann #a :End of WHO list"},
		"WHOIS bob":     {":irc.x 311 ann bob v h * :s s", ":irc.x 319 ann bob @#a", ":irc.x 312 ann bob irc.x rollcall", ":irc.x 317 ann bob 0 0 :seconds idle, signon time", ":irc.x 318 ann bob :End of WHOIS list"},
		"MONITOR + bob": {":irc.x 730 ann bob!v@h"},
		"WATCH +bob":    {":irc.x 604 ann bob v h 0 :is online"},
	} {
		w.say(0, line)
		w.expect(0, want...)
	}
	w.turn(1, "w", "")
	w.say(0, "WHOIS bob")
	w.Leave(1, "x")
	w.quiet()
	w.say(0, "WHOWAS bob")
	w.expect(0, ":irc.x 314 ann bob w h * :", ":irc.x 312 ann bob irc.x rollcall", ":irc.x 369 ann bob :End of WHOWAS")
}

func TestKnows(t *testing.T) {
	for _, command := range strings.Fields("ISON USERHOST WHOIS WHO WHOWAS MONITOR WATCH") {
		if !sight.Knows(command) || sight.Knows(strings.ToLower(command)) {
			t.Error(command)
		}
	}
	for _, command := range []string{"", "NICK", "JOIN", "001", "WHO "} {
		if sight.Knows(command) {
			t.Error(command)
		}
	}
}

func TestDo(t *testing.T) {
	w := made(t, nil).join("ann")
	if sight.Do(nil, 0, api.Msg{Command: "WHO"}) || sight.Do(w.Core, 5, api.Msg{Command: "WHO"}) || sight.Do(w.Core, 0, api.Msg{Command: "PING"}) || sight.Do(w.Core, 0, api.Msg{Command: "who"}) || sight.Do(w.Core, 0, api.Msg{}) {
		t.Error("nothing can be done")
	}
	w.expect(0)
	w.Connect(7, "h")
	w.Claim(7, "sue")
	for _, line := range []string{"ISON", "USERHOST", "WHOIS ann", "WHO", "WHOWAS", "MONITOR", "WATCH"} {
		w.say(7, line)
		w.expect(7, ":irc.x 451 sue :You have not registered")
	}
}

func TestIson(t *testing.T) {
	w := made(t, nil).join("ann", "Bob", "cid")
	w.Connect(9, "h")
	w.Claim(9, "sue")
	w.be(2, hide)
	for line, want := range map[string]string{
		"ISON": "461 ann ISON :Not enough parameters", "ISON :": "303 ann :", "ISON sue": "303 ann :", "ISON bOB": "303 ann Bob", "ISON cid ann": "303 ann :cid ann", "ISON x :  bob  x bob ANN ": "303 ann :Bob Bob ann", "ISON bob,ann": "303 ann :",
	} {
		w.say(0, line)
		w.expect(0, ":irc.x "+want)
	}
	w.say(0, "ISON :"+strings.Repeat("ann ", 120))
	w.expect(0, ":irc.x 303 ann :"+strings.TrimRight(strings.Repeat("ann ", 120), " "))
}

func TestUserhost(t *testing.T) {
	w := made(t, nil).join("ann", "Bob")
	w.be(1, func(p *api.Person) { p.Oper, p.Away = true, "x" })
	for line, want := range map[string]string{
		"USERHOST": "461 ann USERHOST :Not enough parameters", "USERHOST :": "302 ann :", "USERHOST x": "302 ann :", "USERHOST bob": "302 ann Bob*=-u@h", "USERHOST ann x :bob ann y bob bob": "302 ann :ann=+u@h Bob*=-u@h ann=+u@h",
		"USERHOST 1  :  2  3   4 bob ann": "302 ann Bob*=-u@h", "USERHOST 1 2 3 4 bob ann": "302 ann Bob*=-u@h",
	} {
		w.say(0, line)
		w.expect(0, ":irc.x "+want)
	}
}

func TestWhois(t *testing.T) {
	w := made(t, nil).join("ann", "Bob", "cid")
	w.on("#b", 1, 0)
	w.on("#A", 0, 1)
	w.on("#s", 1)
	w.secret("#s")
	w.Tick()
	w.say(0, "WHOIS")
	w.say(0, "WHOIS :")
	w.say(0, "WHOIS bob :")
	w.expect(0, ":irc.x 431 ann :No nickname given", ":irc.x 431 ann :No nickname given", ":irc.x 431 ann :No nickname given")
	w.say(0, "WHOIS bob zoe")
	w.expect(0, ":irc.x 401 ann zoe :No such nick", ":irc.x 318 ann zoe :End of WHOIS list")
	lines := []string{":irc.x 311 ann Bob u h * r", ":irc.x 319 ann Bob :#A @#b", ":irc.x 312 ann Bob irc.x rollcall", ":irc.x 317 ann Bob 1 0 :seconds idle, signon time", ":irc.x 318 ann Bob :End of WHOIS list"}
	w.say(0, "WHOIS bOB")
	w.expect(0, lines...)
	w.say(0, "WHOIS irc.x BOB x")
	w.expect(0, lines...)
	w.say(0, "WHOIS cid")
	w.expect(0, ":irc.x 311 ann cid u h * r", ":irc.x 312 ann cid irc.x rollcall", ":irc.x 317 ann cid 1 0 :seconds idle, signon time", ":irc.x 318 ann cid :End of WHOIS list")
}

// channels are the words for somebody's rooms.
func (w world) channels(id, of int) string {
	w.t.Helper()
	seq := sight.Channels(w.Core, id, of)
	if seq == nil {
		w.t.Fatal("it is nil")
	}
	return strings.Join(slices.Collect(seq), " ")
}

func TestChannels(t *testing.T) {
	w := made(t, nil).join("ann", "bob", "cid")
	w.on("#b", 1)
	w.on("#A", 0, 1)
	w.on("#s", 1, 2)
	w.secret("#s")
	r, _ := w.Rooms().Get("#b")
	r.Change(api.Change{On: true, Letter: 'v'}, 1)
	check := func(id int, want string) {
		t.Helper()
		if got := w.channels(id, 1); got != want {
			t.Errorf("to %d: %q, not %q", id, got, want)
		}
	}
	check(0, "#A @#b")
	check(1, "#A @#b @#s")
	check(2, "#A @#b @#s")
	w.caps(0, api.CapMulti)
	check(0, "#A @+#b")
	w.be(1, hide)
	check(0, "#A @+#b")
	w.Rooms().Part(0, "#a")
	check(0, "")
	check(1, "#A @#b @#s")
	w.be(0, raise)
	check(0, "#A @+#b @#s")
	w.Connect(9, "h")
	if w.channels(9, 0) != "" || w.channels(0, 9) != "" || w.channels(77, 1) != "" || w.channels(0, -1) != "" {
		t.Error("of nobody")
	}
	var seqs []iter.Seq[string]
	seqs = append(seqs, sight.Channels(nil, 0, 1), sight.Channels(w.Core, 1, 1))
	w.Rooms().Leave(1)
	if got := slices.Collect(seqs[1]); len(slices.Collect(seqs[0])) != 0 || len(got) != 3 {
		t.Errorf("as they were: %q", got)
	}
}

// who is the line of WHO of a nickname, as the first of some people is told it.
func who(to, channel, nick, flags string) string {
	return ":irc.x 352 " + to + " " + channel + " u h irc.x " + nick + " " + flags + " :0 r"
}

func TestWhoOfMasks(t *testing.T) {
	w := made(t, nil).join("ann", "Bob", "cid", "dan")
	w.Connect(9, "h")
	w.Claim(9, "axx")
	w.be(1, func(p *api.Person) { p.Oper, p.Away = true, "x" })
	w.on("#a", 0, 1)
	end := func(mask string) string { return ":irc.x 315 ann " + mask + " :End of WHO list" }
	all := []string{who("ann", "*", "ann", "H"), who("ann", "*", "Bob", "G*"), who("ann", "*", "cid", "H"), who("ann", "*", "dan", "H")}
	for line, want := range map[string][]string{
		"": append(slices.Clone(all), end("*")), " :": append(slices.Clone(all), end("*")), " *": append(slices.Clone(all), end("*")), " h": append(slices.Clone(all), end("h")), " U": append(slices.Clone(all), end("U")),
		" BOB": {all[1], end("BOB")}, " ?a?": {all[3], end("?a?")}, " a*": {all[0], end("a*")}, " zoe": {end("zoe")}, " r": {end("r")}, " #": {end("#")},
	} {
		w.say(0, "WHO"+line)
		w.expect(0, want...)
	}
	w.be(1, hide)
	w.be(2, hide)
	w.be(0, hide)
	w.say(0, "WHO *")
	w.expect(0, all[0], all[1], all[3], end("*"))
	w.say(0, "WHO ci?")
	w.say(0, "WHO CID")
	w.expect(0, end("ci?"), all[2], end("CID"))
	w.be(0, raise)
	w.say(0, "WHO c*")
	w.expect(0, all[2], end("c*"))
}

func TestWhoOfChannels(t *testing.T) {
	w := made(t, nil).join("ann", "bob", "cid")
	w.on("#A", 1, 0)
	w.on("#b", 1, 2)
	r, _ := w.Rooms().Get("#a")
	r.Change(api.Change{On: true, Letter: 'v'}, 1)
	w.say(0, "WHO #a")
	w.expect(0, who("ann", "#A", "ann", "H"), who("ann", "#A", "bob", "H@"), ":irc.x 315 ann #a :End of WHO list")
	w.caps(2, api.CapMulti)
	w.say(2, "WHO #a")
	w.expect(2, who("cid", "#A", "ann", "H"), who("cid", "#A", "bob", "H@+"), ":irc.x 315 cid #a :End of WHO list")
	w.be(1, hide)
	w.say(0, "WHO #A")
	w.expect(0, who("ann", "#A", "ann", "H"), who("ann", "#A", "bob", "H@"), ":irc.x 315 ann #A :End of WHO list")
	w.say(2, "WHO #a")
	w.expect(2, who("cid", "#A", "ann", "H"), ":irc.x 315 cid #a :End of WHO list")
	w.secret("#a")
	w.say(2, "WHO #a")
	w.say(2, "WHO #x")
	w.expect(2, ":irc.x 315 cid #a :End of WHO list", ":irc.x 315 cid #x :End of WHO list")
	w.be(2, raise)
	w.say(2, "WHO #a")
	w.expect(2, who("cid", "#A", "ann", "H"), who("cid", "#A", "bob", "H@+"), ":irc.x 315 cid #a :End of WHO list")
}

func TestWhowas(t *testing.T) {
	w := made(t, nil).join("ann", "Bob")
	w.Leave(1, "x")
	w.Connect(1, "g")
	w.SetSign(1, api.Sign{User: "v", Real: "B b"})
	w.Claim(1, "bOB")
	w.Register(1)
	w.Leave(1, "x")
	w.say(0, "WHOWAS")
	w.say(0, "WHOWAS :")
	w.say(0, "WHOWAS zoe")
	w.expect(0, ":irc.x 431 ann :No nickname given", ":irc.x 431 ann :No nickname given", ":irc.x 406 ann zoe :There was no such nickname", ":irc.x 369 ann zoe :End of WHOWAS")
	w.say(0, "WHOWAS BOB x")
	w.expect(0, ":irc.x 314 ann bOB v g * :B b", ":irc.x 312 ann bOB irc.x rollcall", ":irc.x 314 ann Bob u h * r", ":irc.x 312 ann Bob irc.x rollcall", ":irc.x 369 ann BOB :End of WHOWAS")
}

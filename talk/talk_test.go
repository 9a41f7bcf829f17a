package talk_test

import (
	"iter"
	"slices"
	"strings"
	"testing"

	"rollcall/api"
	"rollcall/config"
	"rollcall/core"
	"rollcall/message"
	"rollcall/talk"
)

// world is a core, and what is asked of it by a test.
type world struct {
	*core.Core
	t *testing.T
}

// made is a world of the usual configuration, changed.
func made(t *testing.T, change func(*api.Config)) world {
	t.Helper()
	conf := config.Usual()
	conf.Name = "irc.x"
	if change != nil {
		change(&conf)
	}
	c, e := core.New(conf)
	if e != api.OK {
		t.Fatalf("New: %d", e)
	}
	return world{c, t}
}

// join connects and registers people, from 0 on.
func (w world) join(nicks ...string) world {
	for id, nick := range nicks {
		w.Connect(id, "h")
		w.SetSign(id, api.Sign{User: "u", Real: "r"})
		if !w.Claim(id, nick) || !w.Register(id) {
			w.t.Fatalf("%d can't be %s", id, nick)
		}
	}
	return w
}

// on puts people on a channel.
func (w world) on(name string, ids ...int) {
	for _, id := range ids {
		w.Rooms().Join(id, name)
	}
}

// caps gives somebody capabilities.
func (w world) caps(id, caps int) {
	s := w.Sign(id)
	s.Caps = caps
	w.SetSign(id, s)
}

// say does what a line says.
func (w world) say(id int, line string) {
	w.t.Helper()
	m, e := message.Parse(line)
	if e != api.OK || !talk.Do(w.Core, id, m) {
		w.t.Errorf("%d says %q: %d", id, line, e)
	}
}

// expect drains all that waits for somebody, and checks it.
func (w world) expect(id int, want ...string) {
	w.t.Helper()
	var got []string
	for line := range strings.SplitAfterSeq(string(w.Drain(id, 1<<40)), "\r\n") {
		if line != "" {
			got = append(got, strings.TrimSuffix(line, "\r\n"))
		}
	}
	if !slices.Equal(got, want) {
		w.t.Errorf("%d was told %q, not %q", id, got, want)
	}
}

func TestKnows(t *testing.T) {
	for _, command := range strings.Fields("CAP PASS NICK USER PING PONG QUIT PRIVMSG NOTICE AWAY OPER KILL") {
		if !talk.Knows(command) || talk.Knows(strings.ToLower(command)) {
			t.Error(command)
		}
	}
	for _, command := range []string{"", "JOIN", "WHO", "001", "PING "} {
		if talk.Knows(command) {
			t.Error(command)
		}
	}
}

func TestDo(t *testing.T) {
	w := made(t, nil).join("ann")
	if talk.Do(nil, 0, api.Msg{Command: "PING"}) || talk.Do(w.Core, 5, api.Msg{Command: "PING"}) || talk.Do(w.Core, 0, api.Msg{Command: "JOIN"}) || talk.Do(w.Core, 0, api.Msg{Command: "ping"}) || talk.Do(w.Core, 0, api.Msg{}) {
		t.Error("nothing can be done")
	}
	w.expect(0)
	w.Connect(7, "h")
	for _, line := range []string{"PRIVMSG", "NOTICE ann x", "AWAY x", "OPER a b", "KILL ann"} {
		w.say(7, line)
		w.expect(7, ":irc.x 451 * :You have not registered")
	}
	w.Claim(7, "sue")
	w.say(7, "PRIVMSG ann :hi")
	w.expect(7, ":irc.x 451 sue :You have not registered")
	w.expect(0)
}

func TestPeers(t *testing.T) {
	w := made(t, nil).join("ann", "bob", "cid", "dan")
	w.on("#a", 3, 0, 1)
	w.on("#b", 0, 3)
	w.caps(1, api.CapAway)
	w.caps(3, api.CapEcho|api.CapMulti)
	w.caps(0, 7)
	for capability, want := range map[int][]int{0: {1, 3}, api.CapAway: {1}, api.CapEcho: {3}, api.CapMulti: {3}, 3: nil, 8: nil, -1: nil} {
		if got := slices.Collect(talk.Peers(w.Core, 0, capability)); !slices.Equal(got, want) {
			t.Errorf("Peers of %d: %v, not %v", capability, got, want)
		}
	}
	for _, seq := range []iter.Seq[int]{talk.Peers(w.Core, 2, 0), talk.Peers(w.Core, 9, 0), talk.Peers(nil, 0, 0)} {
		if seq == nil {
			t.Fatal("it is nil")
		}
		if got := slices.Collect(seq); len(got) != 0 {
			t.Errorf("%v", got)
		}
	}
	seq := talk.Peers(w.Core, 0, 0)
	w.Rooms().Leave(3)
	if got := slices.Collect(seq); !slices.Equal(got, []int{1, 3}) {
		t.Errorf("as they were: %v", got)
	}
}

// welcome are the lines to somebody who was registered.
func welcome(nick, user string) []string {
	return []string{
		":irc.x 001 " + nick + " :Welcome " + nick + "!" + user + "@h",
		":irc.x 004 " + nick + " irc.x rollcall io bklimnostv",
		":irc.x 005 " + nick + " :CASEMAPPING=rfc1459 CHANTYPES=# PREFIX=(ov)@+ CHANMODES=b,k,l,imnst NICKLEN=16 CHANNELLEN=50 MODES=4 MAXTARGETS=4 TOPICLEN=200 CHANLIMIT=#:10 MAXLIST=b:20 MONITOR=30 WATCH=30",
		":irc.x 422 " + nick + " :MOTD File is missing",
	}
}

func TestRegistering(t *testing.T) {
	w := made(t, nil)
	for id, lines := range [][]string{{"NICK ann", "USER u 0 * :A a"}, {"USER u 0 * :A a", "NICK ann"}, {"NICK x", "NICK ann", "PASS y", "USER u 0 * :A a"}} {
		w.Connect(id, "h")
		for _, line := range lines {
			w.say(id, line)
		}
		w.expect(id, welcome("ann", "u")...)
		if p, ok := w.Person(id); !ok || p.Real != "A a" {
			t.Errorf("%d isn't registered: %v", id, p)
		}
		w.say(id, "USER v 0 * x")
		w.say(id, "PASS x")
		w.expect(id, ":irc.x 462 ann :You may not reregister", ":irc.x 462 ann :You may not reregister")
		w.Forget(id)
	}
}

func TestRegisteringWithCap(t *testing.T) {
	w := made(t, nil)
	w.Connect(1, "h")
	w.say(1, "CAP LS 302")
	w.say(1, "NICK ann")
	w.say(1, "USER u 0 * r")
	w.expect(1, ":irc.x CAP * LS :away-notify echo-message multi-prefix")
	w.say(1, "CAP REQ :away-notify echo-message")
	w.say(1, "CAP REQ x")
	w.say(1, "CAP X")
	w.expect(1, ":irc.x CAP ann ACK :away-notify echo-message", ":irc.x CAP ann NAK x", ":irc.x 410 ann X :Invalid CAP command")
	w.say(1, "CAP END")
	w.expect(1, welcome("ann", "u")...)
	w.say(1, "CAP REQ -echo-message")
	w.say(1, "CAP LIST")
	w.say(1, "CAP END")
	w.expect(1, ":irc.x CAP ann ACK -echo-message", ":irc.x CAP ann LIST away-notify")
	if s := w.Sign(1); s.Talking || s.Caps != api.CapAway {
		t.Errorf("%v", s)
	}
}

func TestPassword(t *testing.T) {
	w := made(t, func(c *api.Config) { c.Pass = "secret" })
	w.Connect(1, "h")
	w.say(1, "PASS wrong")
	w.say(1, "PASS")
	w.say(1, "NICK ann")
	w.expect(1, ":irc.x 461 * PASS :Not enough parameters")
	w.say(1, "USER u 0 * r")
	w.expect(1, ":irc.x 464 ann :Password incorrect", "ERROR :Closing Link: h (Bad password)")
	if w.There(1) {
		t.Error("it is there")
	}
	w.Connect(2, "h")
	w.say(2, "PASS secret")
	w.say(2, "NICK ann")
	w.say(2, "USER u 0 *")
	w.say(2, "USER u! 0 * r")
	w.expect(2, ":irc.x 461 ann USER :Not enough parameters", ":irc.x 468 ann :Invalid username")
	w.say(2, "USER u 0 * r")
	w.expect(2, welcome("ann", "u")...)
}

func TestNick(t *testing.T) {
	w := made(t, nil).join("ann", "bob", "cid")
	w.on("#a", 0, 1)
	w.on("#b", 0, 1)
	w.Monitor().Add(2, "ann")
	w.say(0, "NICK x")
	w.expect(0, ":ann!u@h NICK x")
	w.expect(1, ":ann!u@h NICK x")
	w.expect(2, ":irc.x 731 cid ann")
	w.say(0, "NICK x")
	w.expect(0)
	w.say(0, "NICK X")
	w.expect(1, ":x!u@h NICK X")
	for line, want := range map[string]string{
		"NICK": ":irc.x 431 X :No nickname given", "NICK :": ":irc.x 431 X :No nickname given", "NICK 1a": ":irc.x 432 X 1a :Erroneous nickname",
		"NICK :a b": ":irc.x 432 X a-b :Erroneous nickname", "NICK BOB": ":irc.x 433 X BOB :Nickname is already in use",
	} {
		w.Drain(0, 999)
		w.say(0, line)
		w.expect(0, want)
	}
	w.expect(1)
	w.Connect(7, "h")
	w.say(7, "NICK sue")
	w.say(0, "NICK Sue")
	w.expect(0, ":irc.x 433 X Sue :Nickname is already in use")
	w.say(7, "NICK bob")
	w.expect(7, ":irc.x 433 sue bob :Nickname is already in use")
}

func TestWhoItIsFollowsItsSign(t *testing.T) {
	w := made(t, func(c *api.Config) { c.OperName, c.OperPass = "op", "pw" }).join("ann", "bob")
	w.on("#a", 0, 1)
	w.caps(1, api.CapAway)
	s := w.Sign(0)
	s.User = "v"
	w.SetSign(0, s)
	for _, line := range []string{"PRIVMSG #a hi", "NOTICE bob hi", "AWAY out", "NICK x", "OPER op pw", "QUIT"} {
		w.say(0, line)
	}
	w.expect(1, ":ann!v@h PRIVMSG #a hi", ":ann!v@h NOTICE bob hi", ":ann!v@h AWAY out", ":ann!v@h NICK x", ":x!v@h QUIT :Client Quit")
	w.expect(0, ":irc.x 306 ann :You have been marked as being away", ":ann!v@h NICK x", ":irc.x 381 x :You are now an IRC operator", ":x!v@h MODE x +o", "ERROR :Closing Link: h (Client Quit)")
}

func TestPingPongQuit(t *testing.T) {
	w := made(t, nil)
	w.Connect(1, "h")
	w.say(1, "PING x")
	w.say(1, "PING :a b")
	w.say(1, "PING :")
	w.say(1, "PING")
	w.say(1, "PONG")
	w.say(1, "PONG x")
	w.expect(1, ":irc.x PONG irc.x x", ":irc.x PONG irc.x :a b", ":irc.x PONG irc.x :", ":irc.x 409 * :No origin specified")
	w.say(1, "QUIT")
	w.expect(1, "ERROR :Closing Link: h (Client Quit)")
	w = made(t, nil).join("ann", "bob")
	w.on("#a", 0, 1)
	w.say(0, "QUIT :good "+strings.Repeat("x", 300))
	w.expect(1, ":ann!u@h QUIT :Quit: good "+strings.Repeat("x", 195))
	w.Connect(2, "h")
	w.say(2, "QUIT :")
	w.expect(2, "ERROR :Closing Link: h (Quit: )")
}

func TestAway(t *testing.T) {
	w := made(t, nil).join("ann", "bob", "cid", "dan")
	w.on("#a", 0, 1, 2)
	w.on("#b", 0, 1)
	w.caps(1, api.CapAway)
	w.caps(0, api.CapAway)
	w.caps(3, api.CapAway)
	w.say(0, "AWAY out")
	w.expect(0, ":irc.x 306 ann :You have been marked as being away")
	w.expect(1, ":ann!u@h AWAY out")
	w.say(0, "AWAY out")
	w.expect(1)
	w.say(0, "AWAY :far "+strings.Repeat("x", 300))
	w.expect(1, ":ann!u@h AWAY :far "+strings.Repeat("x", 196))
	w.Drain(0, 9999)
	w.say(0, "AWAY :")
	w.say(0, "AWAY")
	w.expect(0, ":irc.x 305 ann :You are no longer marked as being away", ":irc.x 305 ann :You are no longer marked as being away")
	w.expect(1, ":ann!u@h AWAY")
	w.expect(2)
	w.expect(3)
	if p, _ := w.Person(0); p.Away != "" {
		t.Errorf("%q", p.Away)
	}
}

func TestOper(t *testing.T) {
	w := made(t, nil).join("ann")
	w.say(0, "OPER a b")
	w.say(0, "OPER a")
	w.expect(0, ":irc.x 491 ann :No O-lines for your host", ":irc.x 461 ann OPER :Not enough parameters")
	w = made(t, func(c *api.Config) { c.OperName, c.OperPass = "op", "pw" }).join("ann")
	for _, line := range []string{"OPER op pX", "OPER Op pw", "OPER pw op"} {
		w.say(0, line)
		w.expect(0, ":irc.x 464 ann :Password incorrect")
	}
	w.say(0, "OPER")
	w.expect(0, ":irc.x 461 ann OPER :Not enough parameters")
	if p, _ := w.Person(0); p.Oper {
		t.Error("it is no operator")
	}
	w.say(0, "OPER op pw more")
	w.expect(0, ":irc.x 381 ann :You are now an IRC operator", ":ann!u@h MODE ann +o")
	if p, _ := w.Person(0); !p.Oper {
		t.Error("it is an operator")
	}
}

func TestKill(t *testing.T) {
	w := made(t, nil).join("ann", "bob", "cid", "dan", "eve")
	w.on("#a", 1, 4)
	w.Connect(9, "h")
	w.Claim(9, "sue")
	w.say(0, "KILL")
	w.say(0, "KILL bob")
	w.expect(0, ":irc.x 461 ann KILL :Not enough parameters", ":irc.x 481 ann :Permission Denied")
	p, _ := w.Person(0)
	p.Oper = true
	w.SetPerson(p)
	w.say(0, "KILL sue")
	w.say(0, "KILL :")
	w.expect(0, ":irc.x 401 ann sue :No such nick", ":irc.x 401 ann * :No such nick")
	w.say(0, "KILL BOB :be gone "+strings.Repeat("x", 300))
	w.say(0, "KILL cid")
	w.say(0, "KILL dan :")
	reason := "(Killed (ann: be gone " + strings.Repeat("x", 192) + "))"
	w.expect(1, "ERROR :Closing Link: h "+reason)
	w.expect(4, ":bob!u@h QUIT :"+reason[1:len(reason)-1])
	w.expect(2, "ERROR :Closing Link: h (Killed (ann: No reason))")
	w.expect(3, "ERROR :Closing Link: h (Killed (ann: ))")
	w.expect(0)
	w.say(0, "KILL ann x")
	w.expect(0, "ERROR :Closing Link: h (Killed (ann: x))")
}

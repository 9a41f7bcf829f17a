package hall_test

import (
	"slices"
	"strings"
	"testing"

	"rollcall/api"
	"rollcall/config"
	"rollcall/core"
	"rollcall/hall"
	"rollcall/message"
)

// world is a core, and what is asked of it by a test.
type world struct {
	*core.Core
	t *testing.T
}

// made is a world of the usual configuration, changed.
func made(t *testing.T, change func(*api.Config)) world {
	t.Helper()
	conf := config.Usual()
	conf.Name = "irc.x"
	if change != nil {
		change(&conf)
	}
	c, e := core.New(conf)
	if e != api.OK {
		t.Fatalf("New: %d", e)
	}
	return world{c, t}
}

// join connects and registers people, from 0 on.
func (w world) join(nicks ...string) world {
	for id, nick := range nicks {
		w.Connect(id, "h")
		w.SetSign(id, api.Sign{User: "u", Real: "r"})
		if !w.Claim(id, nick) || !w.Register(id) {
			w.t.Fatalf("%d can't be %s", id, nick)
		}
	}
	return w
}

// on puts people on a channel.
func (w world) on(name string, ids ...int) {
	for _, id := range ids {
		w.Rooms().Join(id, name)
	}
}

// caps gives somebody capabilities.
func (w world) caps(id, caps int) {
	s := w.Sign(id)
	s.Caps = caps
	w.SetSign(id, s)
}

// say does what a line says.
func (w world) say(id int, line string) {
	w.t.Helper()
	m, e := message.Parse(line)
	if e != api.OK || !hall.Do(w.Core, id, m) {
		w.t.Errorf("%d says %q: %d", id, line, e)
	}
}

// expect drains all that waits for somebody, and checks it.
func (w world) expect(id int, want ...string) {
	w.t.Helper()
	var got []string
	for line := range strings.SplitAfterSeq(string(w.Drain(id, 1<<40)), "\r\n") {
		if line != "" {
			got = append(got, strings.TrimSuffix(line, "\r\n"))
		}
	}
	if !slices.Equal(got, want) {
		w.t.Errorf("%d was told %q, not %q", id, got, want)
	}
}

// quiet drains all that waits for everybody.
func (w world) quiet() {
	for id := range w.Ids() {
		w.Drain(id, 1<<40)
	}
}

// be changes the person that somebody is.
func (w world) be(id int, change func(*api.Person)) {
	p, _ := w.Person(id)
	change(&p)
	w.SetPerson(p)
}

// modes changes the modes of a channel.
func (w world) modes(name string, changes ...api.Change) {
	r, _ := w.Rooms().Get(name)
	for _, c := range changes {
		if made, code := r.Change(c, 0); code != 0 || made == (api.Change{}) {
			w.t.Fatalf("%v of %s: %d", c, name, code)
		}
	}
}

// on and off are changes.
func on(letter byte, arg string) api.Change  { return api.Change{On: true, Letter: letter, Arg: arg} }
func off(letter byte, arg string) api.Change { return api.Change{Letter: letter, Arg: arg} }

func TestKnows(t *testing.T) {
	for _, command := range strings.Fields("JOIN PART KICK TOPIC NAMES LIST INVITE MODE") {
		if !hall.Knows(command) || hall.Knows(strings.ToLower(command)) {
			t.Error(command)
		}
	}
	for _, command := range []string{"", "NICK", "WHO", "001", "JOIN "} {
		if hall.Knows(command) {
			t.Error(command)
		}
	}
}

func TestDo(t *testing.T) {
	w := made(t, nil).join("ann")
	if hall.Do(nil, 0, api.Msg{Command: "JOIN"}) || hall.Do(w.Core, 5, api.Msg{Command: "JOIN"}) || hall.Do(w.Core, 0, api.Msg{Command: "PING"}) || hall.Do(w.Core, 0, api.Msg{Command: "join"}) || hall.Do(w.Core, 0, api.Msg{}) {
		t.Error("nothing can be done")
	}
	w.expect(0)
	w.Connect(7, "h")
	for _, line := range []string{"JOIN", "PART #a", "KICK", "TOPIC", "NAMES", "LIST", "INVITE", "MODE"} {
		w.say(7, line)
		w.expect(7, ":irc.x 451 * :You have not registered")
	}
	for _, line := range []string{"JOIN", "PART", "KICK", "KICK #a", "TOPIC", "INVITE", "INVITE ann", "MODE"} {
		w.say(0, line)
		command, _, _ := strings.Cut(line, " ")
		w.expect(0, ":irc.x 461 ann "+command+" :Not enough parameters")
	}
}

func TestExample(t *testing.T) {
	w := made(t, nil).join("ann")
	w.say(0, "JOIN #a")
	w.expect(0, ":ann!u@h JOIN #a", ":irc.x 353 ann = #a @ann", ":irc.x 366 ann #a :End of NAMES list")
}

func TestJoin(t *testing.T) {
	w := made(t, func(c *api.Config) { c.MaxJoined, c.MaxRooms = 3, 4 }).join("ann", "bob", "cid")
	w.say(0, "JOIN #A[")
	w.quiet()
	w.say(1, "JOIN #a{")
	w.expect(0, ":bob!u@h JOIN #A[")
	w.expect(1, ":bob!u@h JOIN #A[", ":irc.x 353 bob = #A[ :@ann bob", ":irc.x 366 bob #A[ :End of NAMES list")
	w.say(1, "JOIN #A[")
	w.say(1, "JOIN a,#,,#b")
	w.expect(1, ":irc.x 403 bob a :No such channel", ":irc.x 403 bob # :No such channel", ":irc.x 403 bob * :No such channel", ":bob!u@h JOIN #b", ":irc.x 353 bob = #b @bob", ":irc.x 366 bob #b :End of NAMES list")
	w.on("#c", 1)
	w.say(1, "JOIN #d")
	w.expect(1, ":irc.x 405 bob #d :You have joined too many channels")
	w.on("#d", 2)
	w.say(2, "JOIN #e")
	w.expect(2, ":irc.x 405 cid #e :You have joined too many channels")
	w.expect(0)
}

func TestJoinOfClosedRooms(t *testing.T) {
	w := made(t, nil).join("ann", "bob")
	for _, name := range []string{"#b", "#i", "#k", "#l", "#K2"} {
		w.on(name, 0)
	}
	w.modes("#b", on('b', "bob"))
	w.modes("#i", on('i', ""))
	w.modes("#k", on('k', "x"))
	w.modes("#K2", on('k', "y"))
	w.modes("#l", on('l', "1"))
	w.say(1, "JOIN #B,#I,#k,#L")
	w.expect(1, ":irc.x 474 bob #b :Cannot join channel (+b)", ":irc.x 473 bob #i :Cannot join channel (+i)", ":irc.x 475 bob #k :Cannot join channel (+k)", ":irc.x 471 bob #l :Cannot join channel (+l)")
	w.say(1, "JOIN #b,#k,#k2 z,x,y")
	w.expect(1, ":irc.x 474 bob #b :Cannot join channel (+b)", ":bob!u@h JOIN #k", ":irc.x 353 bob = #k :@ann bob", ":irc.x 366 bob #k :End of NAMES list", ":bob!u@h JOIN #K2", ":irc.x 353 bob = #K2 :@ann bob", ":irc.x 366 bob #K2 :End of NAMES list")
	r, _ := w.Rooms().Get("#i")
	r.Invite(1)
	w.say(1, "JOIN #i")
	w.expect(1, ":bob!u@h JOIN #i", ":irc.x 353 bob = #i :@ann bob", ":irc.x 366 bob #i :End of NAMES list")
}

func TestJoinOfSomebodyAway(t *testing.T) {
	w := made(t, nil).join("ann", "bob", "cid", "dan")
	w.on("#a", 0, 1, 2)
	r, _ := w.Rooms().Get("#a")
	r.SetTopic("our topic")
	w.caps(1, api.CapAway)
	w.caps(3, api.CapAway)
	w.be(3, func(p *api.Person) { p.Away = "gone out" })
	w.say(3, "JOIN #a")
	w.expect(0, ":dan!u@h JOIN #a")
	w.expect(1, ":dan!u@h JOIN #a", ":dan!u@h AWAY :gone out")
	w.expect(3, ":dan!u@h JOIN #a", ":irc.x 332 dan #a :our topic", ":irc.x 353 dan = #a :@ann bob cid dan", ":irc.x 366 dan #a :End of NAMES list")
}

func TestJoinOfSomebodyHere(t *testing.T) {
	w := made(t, nil).join("ann", "bob")
	w.on("#a", 0)
	w.caps(0, api.CapAway)
	w.caps(1, api.CapAway)
	w.say(1, "JOIN #a")
	w.expect(0, ":bob!u@h JOIN #a")
}

func TestPart(t *testing.T) {
	w := made(t, nil).join("ann", "bob")
	w.on("#A", 0, 1)
	w.on("#b", 0)
	w.say(1, "PART #x,#b,,#a")
	w.expect(1, ":irc.x 403 bob #x :No such channel", ":irc.x 442 bob #b :You're not on that channel", ":irc.x 403 bob * :No such channel", ":bob!u@h PART #A")
	w.expect(0, ":bob!u@h PART #A")
	w.say(1, "PART #A x")
	w.expect(1, ":irc.x 442 bob #A :You're not on that channel")
	w.say(0, "PART #a,#B :so "+strings.Repeat("x", 300))
	w.expect(0, ":ann!u@h PART #A :so "+strings.Repeat("x", 197), ":ann!u@h PART #b :so "+strings.Repeat("x", 197))
	if w.Rooms().Len() != 0 {
		t.Error("rooms without members")
	}
	w.on("#c", 0)
	w.say(0, "PART #c :")
	w.expect(0, ":ann!u@h PART #c :")
}

func TestKick(t *testing.T) {
	w := made(t, nil).join("ann", "bob", "cid", "dan")
	w.on("#A", 0, 1, 2)
	w.Connect(9, "h")
	w.Claim(9, "sue")
	for line, want := range map[string]string{
		"#x bob": "403 ann #x :No such channel", "#a sue": "401 ann sue :No such nick", "#a zoe,bob": "401 ann zoe,bob :No such nick", "#a DAN": "441 ann DAN #a :They aren't on that channel", "#A,#b bob": "403 ann #A,#b :No such channel",
	} {
		w.say(0, "KICK "+line)
		w.expect(0, ":irc.x "+want)
	}
	w.say(3, "KICK #a nobody")
	w.expect(3, ":irc.x 442 dan #a :You're not on that channel")
	w.say(1, "KICK #a nobody")
	w.expect(1, ":irc.x 482 bob #a :You're not channel operator")
	w.say(0, "KICK #a BOB")
	w.expect(0, ":ann!u@h KICK #A bob ann")
	w.expect(1, ":ann!u@h KICK #A bob ann")
	w.say(0, "KICK #a cid :go "+strings.Repeat("x", 300))
	w.expect(2, ":ann!u@h KICK #A bob ann", ":ann!u@h KICK #A cid :go "+strings.Repeat("x", 197))
	w.quiet()
	w.say(0, "KICK #a ann :")
	w.expect(0, ":ann!u@h KICK #A ann :")
	if w.Rooms().Len() != 0 {
		t.Error("nobody is there")
	}
}

func TestTopic(t *testing.T) {
	w := made(t, nil).join("ann", "bob", "cid")
	w.on("#A", 0, 1)
	w.say(2, "TOPIC #x")
	w.say(2, "TOPIC #a y")
	w.expect(2, ":irc.x 403 cid #x :No such channel", ":irc.x 442 cid #a :You're not on that channel")
	w.say(1, "TOPIC #a")
	w.say(1, "TOPIC #a y")
	w.expect(1, ":irc.x 331 bob #A :No topic is set", ":irc.x 482 bob #a :You're not channel operator")
	w.say(0, "TOPIC #a :our "+strings.Repeat("x", 300))
	w.expect(0, ":ann!u@h TOPIC #A :our "+strings.Repeat("x", 196))
	w.expect(1, ":ann!u@h TOPIC #A :our "+strings.Repeat("x", 196))
	w.modes("#a", off('t', ""))
	w.say(1, "TOPIC #a new")
	w.say(1, "TOPIC #a")
	w.say(1, "TOPIC #a :")
	w.say(1, "TOPIC #a")
	w.expect(1, ":bob!u@h TOPIC #A new", ":irc.x 332 bob #A new", ":bob!u@h TOPIC #A :", ":irc.x 331 bob #A :No topic is set")
}

func TestNames(t *testing.T) {
	w := made(t, nil).join("ann", "bob", "cid", "dan")
	w.on("#A", 2, 0, 1)
	r, _ := w.Rooms().Get("#a")
	r.Change(on('o', ""), 0)
	r.Change(on('v', ""), 0)
	r.Change(on('v', ""), 1)
	w.be(1, func(p *api.Person) { p.Hidden = true })
	w.say(0, "NAMES")
	w.say(0, "NAMES #x,#a,,x")
	w.expect(0, ":irc.x 366 ann * :End of NAMES list", ":irc.x 366 ann #x :End of NAMES list", ":irc.x 353 ann = #A :@ann +bob @cid", ":irc.x 366 ann #A :End of NAMES list", ":irc.x 366 ann * :End of NAMES list", ":irc.x 366 ann x :End of NAMES list")
	w.caps(3, api.CapMulti)
	w.say(3, "NAMES #a")
	w.expect(3, ":irc.x 353 dan = #A :@+ann @cid", ":irc.x 366 dan #A :End of NAMES list")
	w.modes("#a", on('s', ""))
	w.say(3, "NAMES #a")
	w.expect(3, ":irc.x 366 dan #a :End of NAMES list")
	w.be(3, func(p *api.Person) { p.Oper = true })
	w.say(3, "NAMES #a")
	w.expect(3, ":irc.x 353 dan @ #A :@+ann +bob @cid", ":irc.x 366 dan #A :End of NAMES list")
	if got := hall.Names(w.Core, 0, r); !slices.Equal(got, []string{":irc.x 353 ann @ #A :@ann +bob @cid"}) {
		t.Errorf("%q", got)
	}
	if len(hall.Names(w.Core, 0, nil)) != 0 || len(hall.Names(nil, 0, r)) != 0 {
		t.Error("of nothing")
	}
	w.be(3, func(p *api.Person) { p.Oper = false })
	for _, id := range []int{0, 2} {
		w.be(id, func(p *api.Person) { p.Hidden = true })
	}
	if got := hall.Names(w.Core, 3, r); !slices.Equal(got, []string{":irc.x 353 dan @ #A :"}) {
		t.Errorf("%q", got)
	}
}

func TestNamesOfMany(t *testing.T) {
	w := made(t, nil)
	var nicks []string
	for i := range 60 {
		nicks = append(nicks, "nickname"+string(rune('a'+i%26))+strings.Repeat("x", i/26))
	}
	w.join(nicks...)
	for id := range nicks {
		w.on("#a", id)
	}
	r, _ := w.Rooms().Get("#a")
	lines := hall.Names(w.Core, 5, r)
	told := ""
	for _, line := range lines {
		if len(line) > 510 {
			t.Errorf("%d bytes", len(line))
		}
		told += line[strings.LastIndex(line, ":")+1:] + " "
	}
	if len(lines) != 2 || told != "@"+strings.Join(nicks, " ")+" " {
		t.Errorf("%q", lines)
	}
}

func TestList(t *testing.T) {
	w := made(t, nil).join("ann", "bob", "cid")
	w.on("#b", 0, 1)
	w.on("#A", 0)
	w.on("#s", 1)
	w.modes("#s", on('s', ""))
	r, _ := w.Rooms().Get("#b")
	r.SetTopic("a topic")
	w.be(0, func(p *api.Person) { p.Hidden = true })
	w.say(2, "LIST")
	w.expect(2, ":irc.x 322 cid #A 1 :", ":irc.x 322 cid #b 2 :a topic", ":irc.x 323 cid :End of LIST")
	w.say(1, "LIST #s,#x,#a,#S")
	w.expect(1, ":irc.x 322 bob #s 1 :", ":irc.x 322 bob #A 1 :", ":irc.x 322 bob #s 1 :", ":irc.x 323 bob :End of LIST")
	w.say(2, "LIST #s,,x")
	w.expect(2, ":irc.x 323 cid :End of LIST")
	w.be(2, func(p *api.Person) { p.Oper = true })
	w.say(2, "LIST #s")
	w.expect(2, ":irc.x 322 cid #s 1 :", ":irc.x 323 cid :End of LIST")
}

func TestInvite(t *testing.T) {
	w := made(t, nil).join("ann", "Bob", "cid", "dan")
	w.on("#A", 0, 2)
	w.Connect(9, "h")
	w.Claim(9, "sue")
	for line, want := range map[string]string{
		"sue #a": "401 ann sue :No such nick", "bob #x": "403 ann #x :No such channel", "CID #a": "443 ann CID #a :is already on channel",
	} {
		w.say(0, "INVITE "+line)
		w.expect(0, ":irc.x "+want)
	}
	w.say(3, "INVITE bob #a")
	w.expect(3, ":irc.x 442 dan #a :You're not on that channel")
	w.modes("#a", on('i', ""))
	w.say(2, "INVITE bob #a")
	w.expect(2, ":irc.x 482 cid #a :You're not channel operator")
	w.say(0, "INVITE bOB #a")
	w.expect(0, ":irc.x 341 ann Bob #A")
	w.expect(1, ":ann!u@h INVITE Bob #A")
	w.say(1, "JOIN #a")
	w.expect(1, ":Bob!u@h JOIN #A", ":irc.x 353 Bob = #A :@ann Bob cid", ":irc.x 366 Bob #A :End of NAMES list")
	w.modes("#a", off('i', ""))
	w.quiet()
	w.say(2, "INVITE dan #a")
	w.expect(3, ":cid!u@h INVITE dan #A")
}

func TestWhoItIsFollowsItsSign(t *testing.T) {
	w := made(t, nil).join("ann", "bob")
	s := w.Sign(0)
	s.User = "v"
	w.SetSign(0, s)
	w.on("#a", 0, 1)
	w.on("#b", 1)
	w.modes("#b", on('b', "*!v@*"))
	for _, line := range []string{"TOPIC #a hi", "MODE #a +m", "INVITE bob #a", "PART #a", "JOIN #b"} {
		w.say(0, line)
	}
	w.expect(1, ":ann!v@h TOPIC #a hi", ":ann!v@h MODE #a +m", ":ann!v@h PART #a")
	w.expect(0, ":ann!v@h TOPIC #a hi", ":ann!v@h MODE #a +m", ":irc.x 443 ann bob #a :is already on channel", ":ann!v@h PART #a", ":irc.x 474 ann #b :Cannot join channel (+b)")
}

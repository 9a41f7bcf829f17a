package core_test

import (
	"slices"
	"strings"
	"testing"

	"rollcall/api"
	"rollcall/config"
	"rollcall/core"
)

// made is a core of the usual configuration, changed.
func made(t *testing.T, change func(*api.Config)) *core.Core {
	t.Helper()
	conf := config.Usual()
	conf.Name = "irc.x"
	if change != nil {
		change(&conf)
	}
	c, e := core.New(conf)
	if c == nil || e != api.OK || c.Config() != conf {
		t.Fatalf("New: %d", e)
	}
	return c
}

// join connects and registers somebody, or the test ends.
func join(t *testing.T, c *core.Core, id int, nick string) {
	t.Helper()
	ok := c.Connect(id, "h")
	c.SetSign(id, api.Sign{User: "u", Real: "r"})
	if !ok || !c.Claim(id, nick) || !c.Register(id) {
		t.Fatalf("%d can't be %s", id, nick)
	}
}

// expect drains all that waits for somebody, and checks it.
func expect(t *testing.T, c *core.Core, id int, want ...string) {
	t.Helper()
	text := string(c.Drain(id, 1<<40))
	var got []string
	for line := range strings.SplitAfterSeq(text, "\r\n") {
		if line != "" {
			got = append(got, strings.TrimSuffix(line, "\r\n"))
		}
	}
	if !slices.Equal(got, want) {
		t.Errorf("%d was told %q, not %q", id, got, want)
	}
}

// fill lets so many bytes wait for somebody.
func fill(t *testing.T, c *core.Core, id, n int) {
	t.Helper()
	for n > 514 {
		c.Tell(id, strings.Repeat("x", 510))
		n -= 512
	}
	if n > 512 {
		c.Tell(id, "xx")
		n -= 4
	}
	c.Tell(id, strings.Repeat("x", n-2))
}

func TestNew(t *testing.T) {
	for _, c := range []struct {
		conf api.Config
		want api.Errno
	}{
		{api.Config{}, api.ErrForm}, {api.Config{Name: "irc.x"}, api.ErrRange},
	} {
		if got, e := core.New(c.conf); got != nil || e != c.want {
			t.Errorf("New: %v, %d", got, e)
		}
	}
	c := made(t, nil)
	if c.Now() != 0 || len(slices.Collect(c.Ids())) != 0 || c.Rooms() == nil || c.Monitor() == nil || c.Watch() == nil || c.Past() == nil {
		t.Error("a new core")
	}
}

func TestConnect(t *testing.T) {
	c := made(t, func(conf *api.Config) { conf.MaxConns = 3 })
	if c.Connect(-1, "h") || !c.Connect(0, "a b") || c.Connect(0, "h") || !c.Connect(7, "h.x") || !c.Connect(1<<63-1, "") || c.Connect(5, "h") {
		t.Error("Connect")
	}
	if c.Host(0) != "unknown" || c.Host(7) != "h.x" || c.Host(5) != "" || c.Host(1<<63-1) != "unknown" {
		t.Error("Host")
	}
	if got := slices.Collect(c.Ids()); !slices.Equal(got, []int{0, 7, 1<<63 - 1}) {
		t.Errorf("Ids: %v", got)
	}
	ids := c.Ids()
	c.Tell(7, "hi")
	c.Leave(7, "x")
	if c.Live(7) || !c.There(7) || c.Connect(7, "h") || c.Connect(8, "h") || c.Host(7) != "h.x" {
		t.Error("who is gone is there, and takes room")
	}
	if got := slices.Collect(c.Ids()); !slices.Equal(got, []int{0, 1<<63 - 1}) {
		t.Errorf("Ids: %v", got)
	}
	if got := slices.Collect(ids); len(got) != 3 {
		t.Errorf("as they were: %v", got)
	}
	expect(t, c, 7, "hi")
	if c.There(7) || !c.Connect(8, "h") {
		t.Error("it is there no more")
	}
}

func TestExample(t *testing.T) {
	c := made(t, nil)
	c.Connect(1, "h")
	c.Tell(1, "hi")
	if got := string(c.Drain(1, 9)); got != "hi\r\n" || c.Waits(1) != 0 {
		t.Errorf("%q", got)
	}
}

func TestSign(t *testing.T) {
	c := made(t, nil)
	c.SetSign(1, api.Sign{User: "u"})
	if c.Sign(1) != (api.Sign{}) {
		t.Error("of nobody")
	}
	c.Connect(1, "h")
	c.SetSign(1, api.Sign{Caps: 3, Talking: true, Pass: "p", Nick: "n", User: "u", Real: "r", Done: true})
	if got := c.Sign(1); got != (api.Sign{Caps: 3, Talking: true, Pass: "p", User: "u", Real: "r"}) {
		t.Errorf("%v", got)
	}
	c.Claim(1, "ann")
	c.Register(1)
	c.SetSign(1, api.Sign{Talking: true})
	if got := c.Sign(1); got != (api.Sign{Talking: true, Nick: "ann", Done: true}) {
		t.Errorf("%v", got)
	}
	c.Tell(1, "hi")
	c.Leave(1, "x")
	if c.Sign(1) != (api.Sign{}) {
		t.Error("of somebody gone")
	}
}

func TestPerson(t *testing.T) {
	c := made(t, nil)
	c.Tick()
	c.Tick()
	c.Connect(1, "h.x")
	c.SetSign(1, api.Sign{User: "u", Real: "r r"})
	c.Claim(1, "ann")
	if p, ok := c.Person(1); ok || p != (api.Person{}) {
		t.Error("who isn't registered is nobody")
	}
	c.SetPerson(api.Person{Id: 1, Oper: true})
	c.Register(1)
	want := api.Person{Id: 1, Nick: "ann", User: "u", Host: "h.x", Real: "r r", Signon: 2, Spoke: 2}
	if p, ok := c.Person(1); p != want || !ok {
		t.Errorf("%v", p)
	}
	c.SetPerson(api.Person{Id: 1, Nick: "x", User: "y", Host: "z", Real: "q", Away: "o\nut" + strings.Repeat("x", 300), Oper: true, Hidden: true, Signon: 9, Spoke: -4})
	want.Away, want.Oper, want.Hidden, want.Spoke = "out"+strings.Repeat("x", 197), true, true, -4
	if p, _ := c.Person(1); p != want {
		t.Errorf("%v, not %v", p, want)
	}
	c.SetPerson(api.Person{Id: 2, Oper: true})
	c.Claim(1, "Bob")
	want.Nick = "Bob"
	if p, _ := c.Person(1); p != want {
		t.Errorf("%v, not %v", p, want)
	}
	c.Leave(1, "x")
	if _, ok := c.Person(1); ok {
		t.Error("it left")
	}
}

// turn sets the User and the Real of somebody's sign.
func turn(c *core.Core, id int, user, real string) {
	s := c.Sign(id)
	s.User, s.Real = user, real
	c.SetSign(id, s)
}

func TestPersonFollowsItsSign(t *testing.T) {
	c := made(t, nil)
	join(t, c, 1, "ann")
	c.SetPerson(api.Person{Id: 1, Away: "out", Oper: true, Hidden: true, Spoke: 5})
	want := api.Person{Id: 1, Nick: "ann", User: "u", Host: "h", Real: "r", Away: "out", Oper: true, Hidden: true, Spoke: 5}
	check := func(when string) {
		t.Helper()
		p, ok := c.Person(1)
		if s := c.Sign(1); !ok || p != want || s.Nick != p.Nick || s.User != p.User || s.Real != p.Real {
			t.Errorf("%s: %v, not %v; the sign is %v", when, p, want, s)
		}
	}
	check("registered")
	turn(c, 1, "v", "s s")
	want.User, want.Real = "v", "s s"
	check("behind SetSign")
	c.SetPerson(api.Person{Id: 1, Nick: "x", User: "w", Real: "t", Spoke: 6})
	want.Away, want.Oper, want.Hidden, want.Spoke = "", false, false, 6
	check("behind SetPerson")
	c.Claim(1, "Bob")
	want.Nick = "Bob"
	check("behind Claim")
	c.Register(1)
	check("behind Register of one that is registered")
	c.SetSign(1, api.Sign{Nick: "x", Done: false})
	want.User, want.Real = "", ""
	check("behind SetSign of nothing")
}

func TestWhatIsToldOfAPersonFollowsItsSign(t *testing.T) {
	c := made(t, nil)
	join(t, c, 1, "ann")
	join(t, c, 2, "bob")
	for _, name := range []string{"ann", "Eve"} {
		c.Monitor().Add(2, name)
		c.Watch().Add(2, name)
	}
	c.Rooms().Join(1, "#a")
	c.Rooms().Join(2, "#a")
	turn(c, 1, "v", "s")
	expect(t, c, 2)
	c.Claim(1, "Eve")
	expect(t, c, 2, ":irc.x 731 bob ann", ":irc.x 601 bob ann v h 0 :logged offline", ":irc.x 730 bob Eve!v@h", ":irc.x 600 bob Eve v h 0 :logged online")
	turn(c, 1, "w", "t t")
	c.Leave(1, "x")
	expect(t, c, 2, ":Eve!w@h QUIT x", ":irc.x 731 bob Eve", ":irc.x 601 bob Eve w h 0 :logged offline")
	want := api.Person{Id: 1, Nick: "Eve", User: "w", Host: "h", Real: "t t"}
	for name, p := range c.Past().All() {
		if name != "Eve" || p != want {
			t.Errorf("the past: %q, %v, not %v", name, p, want)
		}
	}
	c.SetPerson(api.Person{Id: 1, Oper: true})
	join(t, c, 1, "ann")
	if p, _ := c.Person(1); p != (api.Person{Id: 1, Nick: "ann", User: "u", Host: "h", Real: "r"}) {
		t.Errorf("another one of that number: %v", p)
	}
}

func TestClaimAndHolder(t *testing.T) {
	c := made(t, nil)
	c.Connect(1, "h")
	c.Connect(2, "h")
	if c.Claim(3, "a") || c.Claim(1, "1a") || c.Claim(1, "") || c.Claim(1, strings.Repeat("a", 17)) {
		t.Error("what can't be claimed")
	}
	if !c.Claim(1, "Ann[") || c.Claim(2, "aNN{") || !c.Claim(1, "aNN{") {
		t.Error("one holder at most")
	}
	if id, ok := c.Holder("ANN["); id != 1 || !ok || c.Sign(1).Nick != "aNN{" {
		t.Errorf("%d, %v", id, ok)
	}
	c.Claim(1, "x")
	if id, ok := c.Holder("ann["); id != 0 || ok {
		t.Errorf("the former one: %d, %v", id, ok)
	}
	if !c.Claim(2, "ann[") {
		t.Error("it is free")
	}
	c.Leave(1, "")
	if _, ok := c.Holder("x"); ok || !c.Claim(2, "X") || c.Claim(1, "y") {
		t.Error("who left holds nothing")
	}
}

func TestRegister(t *testing.T) {
	c := made(t, nil)
	c.Connect(1, "h")
	if c.Register(1) || c.Register(2) {
		t.Error("without anything")
	}
	c.Claim(1, "ann")
	if c.Register(1) {
		t.Error("without a User")
	}
	c.SetSign(1, api.Sign{User: "u", Talking: true})
	if !c.Register(1) || c.Register(1) {
		t.Error("once")
	}
	if s := c.Sign(1); !s.Done || s.Talking {
		t.Errorf("%v", s)
	}
	c.Connect(2, "h")
	c.SetSign(2, api.Sign{User: "u"})
	if c.Register(2) {
		t.Error("without a Nick")
	}
}

func TestWatchers(t *testing.T) {
	c := made(t, nil)
	for id, nick := range []string{"zoe", "cid", "dan"} {
		join(t, c, id, nick)
	}
	for _, id := range []int{1, 0} {
		c.Monitor().Add(id, "ANN")
		c.Watch().Add(id, "ann")
	}
	c.Watch().Add(2, "bob")
	c.Monitor().Add(5, "ann")
	c.Tick()
	join(t, c, 5, "ann")
	expect(t, c, 0, ":irc.x 730 zoe ann!u@h", ":irc.x 600 zoe ann u h 1 :logged online")
	expect(t, c, 1, ":irc.x 730 cid ann!u@h", ":irc.x 600 cid ann u h 1 :logged online")
	expect(t, c, 2)
	expect(t, c, 5, ":irc.x 730 ann ann!u@h")
	c.Tick()
	if !c.Claim(5, "Ann") {
		t.Error("it is alike")
	}
	expect(t, c, 0)
	if !c.Claim(5, "bob") {
		t.Error("it is free")
	}
	expect(t, c, 1, ":irc.x 731 cid Ann", ":irc.x 601 cid Ann u h 2 :logged offline")
	expect(t, c, 2, ":irc.x 600 dan bob u h 1 :logged online")
	expect(t, c, 5, ":irc.x 731 bob Ann")
	c.Leave(5, "x")
	expect(t, c, 2, ":irc.x 601 dan bob u h 2 :logged offline")
	c.Connect(5, "h")
	c.Claim(5, "ann")
	c.Leave(5, "x")
	expect(t, c, 1)
	if got := slices.Collect(c.Monitor().By("ann")); !slices.Equal(got, []int{0, 1}) {
		t.Errorf("the lists of who left are cleared: %v", got)
	}
}

func TestLeave(t *testing.T) {
	c := made(t, nil)
	for id, nick := range []string{"ann", "bob", "cid"} {
		join(t, c, id, nick)
	}
	for _, name := range []string{"#a", "#b"} {
		c.Rooms().Join(0, name)
		c.Rooms().Join(1, name)
	}
	c.Monitor().Add(0, "x")
	c.Watch().Add(0, "x")
	c.Monitor().Add(1, "ann")
	c.Tell(0, "hi")
	c.Leave(0, "Good bye")
	expect(t, c, 1, ":ann!u@h QUIT :Good bye", ":irc.x 731 bob ann")
	expect(t, c, 2)
	if c.Live(0) || !c.There(0) || c.Waits(0) != 4 || c.Rooms().Count(0) != 0 || c.Monitor().Count(0) != 0 || c.Watch().Count(0) != 0 {
		t.Error("it left")
	}
	past := ""
	for name, p := range c.Past().All() {
		past += name + " " + p.User
	}
	if past != "ann u" {
		t.Errorf("the past: %q", past)
	}
	c.Leave(0, "again")
	c.Tell(0, "more")
	expect(t, c, 1)
	expect(t, c, 0, "hi")
	if c.There(0) {
		t.Error("it is there no more")
	}
	c.Leave(1, "x")
	if c.There(1) || c.Rooms().Len() != 0 {
		t.Error("it is there no more at once")
	}
	c.Leave(9, "nobody")
}

func TestWhoIsntRegisteredLeaves(t *testing.T) {
	c := made(t, nil)
	join(t, c, 1, "ann")
	c.Monitor().Add(1, "bob")
	c.Connect(2, "h")
	c.Claim(2, "bob")
	c.Leave(2, "x")
	expect(t, c, 1)
	if c.Past().Len() != 0 || c.There(2) {
		t.Error("it was nobody")
	}
}

func TestClose(t *testing.T) {
	c := made(t, nil)
	join(t, c, 1, "ann")
	join(t, c, 2, "bob")
	c.Rooms().Join(1, "#a")
	c.Rooms().Join(2, "#a")
	c.Close(1, "Bad\r\npassword")
	c.Close(1, "again")
	expect(t, c, 1, "ERROR :Closing Link: h (Badpassword)")
	expect(t, c, 2, ":ann!u@h QUIT Badpassword")
	if c.There(1) {
		t.Error("it is there no more")
	}
}

func TestSendQ(t *testing.T) {
	c := made(t, func(conf *api.Config) { conf.MaxSend = 512 })
	join(t, c, 1, "ann")
	join(t, c, 2, "bob")
	c.Rooms().Join(1, "#a")
	c.Rooms().Join(2, "#a")
	fill(t, c, 1, 504)
	c.Tell(1, "a\n", strings.Repeat("x", 511))
	if c.Settle() != 0 || c.Waits(1) != 504 {
		t.Error("what is no line isn't told")
	}
	c.Tell(1, "12345678", "x")
	if !c.Live(1) || c.Waits(1) != 504 {
		t.Error("it is dying, and nothing comes any more")
	}
	if n := c.Settle(); n != 1 || c.Live(1) || !c.There(1) || c.Settle() != 0 {
		t.Errorf("%d left", n)
	}
	expect(t, c, 2, ":ann!u@h QUIT :SendQ exceeded")
	if n := len(c.Drain(1, 1000)); n != 504 || c.There(1) {
		t.Errorf("%d bytes could be drained", n)
	}
}

func TestDyingInTheirOrder(t *testing.T) {
	c := made(t, func(conf *api.Config) { conf.MaxSend = 512 })
	nicks := []string{"ann", "bob", "cid", "dan"}
	for id, nick := range nicks {
		join(t, c, id, nick)
		c.Rooms().Join(id, "#a")
	}
	// bob has no room for cid's QUIT, which comes as cid is overrun; ann leaves ahead of being settled.
	fill(t, c, 1, 500)
	fill(t, c, 0, 512)
	fill(t, c, 2, 512)
	c.Tell(2, "x")
	c.Tell(0, "x")
	c.Close(0, "bye")
	if n := c.Settle(); n != 2 {
		t.Errorf("%d left", n)
	}
	expect(t, c, 3, ":ann!u@h QUIT bye", ":cid!u@h QUIT :SendQ exceeded", ":bob!u@h QUIT :SendQ exceeded")
	if n := len(c.Drain(0, 1000)); n != 512 {
		t.Errorf("who is dying isn't told ERROR: %d", n)
	}
	c.Connect(0, "h")
	if c.Settle() != 0 || !c.Live(0) {
		t.Error("another one of that number isn't dying")
	}
}

func TestDrainAndForget(t *testing.T) {
	c := made(t, nil)
	join(t, c, 1, "ann")
	join(t, c, 2, "bob")
	c.Rooms().Join(1, "#a")
	c.Rooms().Join(2, "#a")
	if len(c.Drain(9, 5)) != 0 || c.Waits(9) != 0 || len(c.Drain(1, 5)) != 0 || !c.There(1) {
		t.Error("nothing waits")
	}
	c.Tell(1, "abc")
	if got := string(c.Drain(1, 2)); got != "ab" || c.Waits(1) != 3 || len(c.Drain(1, -1)) != 0 {
		t.Errorf("%q", got)
	}
	c.Forget(1)
	if c.There(1) || c.Waits(1) != 0 {
		t.Error("nothing of it waits")
	}
	expect(t, c, 2, ":ann!u@h QUIT :Connection closed")
	c.Tell(2, "x")
	c.Leave(2, "y")
	c.Forget(2)
	c.Forget(2)
	c.Forget(-1)
	if c.There(2) {
		t.Error("who is gone is forgotten too")
	}
}

func TestFeed(t *testing.T) {
	c := made(t, nil)
	c.Connect(1, "h")
	if len(c.Feed(1, []byte("PI"))) != 0 {
		t.Error("no line ends")
	}
	if got := c.Feed(1, []byte("NG\r\nx")); !slices.Equal(got, []api.Line{{Text: "PING"}}) {
		t.Errorf("%v", got)
	}
	c.Tell(1, "hi")
	c.Leave(1, "")
	if len(c.Feed(1, []byte("\n"))) != 0 || len(c.Feed(9, []byte("x\n"))) != 0 {
		t.Error("who isn't live")
	}
}

func TestTick(t *testing.T) {
	c := made(t, func(conf *api.Config) { conf.Ping, conf.Grace, conf.Reg = 3, 2, 4 })
	join(t, c, 1, "ann")
	join(t, c, 2, "bob")
	c.Connect(3, "h")
	c.Rooms().Join(1, "#a")
	c.Rooms().Join(2, "#a")
	c.Tick()
	c.Heard(2)
	c.Heard(3)
	c.Heard(9)
	c.Tick()
	c.Tick()
	expect(t, c, 1, "PING irc.x")
	expect(t, c, 2)
	c.Tick()
	expect(t, c, 2, "PING irc.x")
	expect(t, c, 3, "ERROR :Closing Link: h (Registration timeout)")
	c.Heard(2)
	c.Tick()
	expect(t, c, 1, "ERROR :Closing Link: h (Ping timeout)")
	expect(t, c, 2, ":ann!u@h QUIT :Ping timeout")
	if c.Now() != 5 || c.There(1) || !c.Live(2) {
		t.Errorf("at %d", c.Now())
	}
}

func TestTickSettlesBehindEach(t *testing.T) {
	c := made(t, func(conf *api.Config) { conf.Ping, conf.Grace, conf.MaxSend = 2, 2, 512 })
	for id, nick := range []string{"ann", "bob", "cid"} {
		join(t, c, id, nick)
		c.Rooms().Join(id, "#a")
	}
	fill(t, c, 0, 510)
	c.Tick()
	c.Heard(2)
	c.Tick()
	expect(t, c, 2, ":ann!u@h QUIT :SendQ exceeded")
	expect(t, c, 1, ":ann!u@h QUIT :SendQ exceeded", "PING irc.x")
	if c.Live(0) || c.Settle() != 0 {
		t.Error("nobody is dying")
	}
}

func TestSpread(t *testing.T) {
	c := made(t, nil)
	c.Connect(1, "h")
	c.Connect(2, "h")
	c.Spread(nil, "x")
	c.Spread(slices.Values([]int{2, 9, 1, 2}), "hi")
	expect(t, c, 1, "hi")
	expect(t, c, 2, "hi", "hi")
}

func TestNilCore(t *testing.T) {
	var c *core.Core
	c.SetSign(1, api.Sign{})
	c.SetPerson(api.Person{Id: 1})
	c.Tell(1, "x")
	c.Spread(slices.Values([]int{1}), "x")
	c.Leave(1, "x")
	c.Close(1, "x")
	c.Forget(1)
	c.Heard(1)
	c.Tick()
	_, person := c.Person(1)
	id, holder := c.Holder("a")
	if id != 0 || c.Connect(1, "h") || c.Live(1) || c.There(1) || person || holder || c.Claim(1, "a") || c.Register(1) || c.Settle() != 0 || c.Waits(1) != 0 {
		t.Error("a nil core does something")
	}
	if c.Config() != (api.Config{}) || c.Now() != 0 || c.Host(1) != "" || c.Sign(1) != (api.Sign{}) || len(c.Feed(1, []byte("a\n"))) != 0 || len(c.Drain(1, 5)) != 0 {
		t.Error("a nil core has something")
	}
	if c.Rooms() != nil || c.Monitor() != nil || c.Watch() != nil || c.Past() != nil {
		t.Error("what isn't nil")
	}
	if c.Ids() == nil {
		t.Fatal("Ids is nil")
	}
	for range c.Ids() {
		t.Error("somebody is there")
	}
}

package serve_test

import (
	"bytes"
	"strings"
	"testing"

	"rollcall/api"
	"rollcall/config"
	"rollcall/serve"
)

// made is a server of the usual configuration, changed.
func made(t *testing.T, change func(*api.Config)) *serve.Server {
	t.Helper()
	conf := config.Usual()
	conf.Name = "irc.x"
	if change != nil {
		change(&conf)
	}
	s, e := serve.New(conf)
	if s == nil || e != api.OK {
		t.Fatalf("New: %d", e)
	}
	return s
}

// connect, send, drain, end and tick are events.
func connect(id int) api.Event { return api.Event{Kind: api.EvConnect, Id: id, Host: "h"} }
func send(id int, text string) api.Event {
	return api.Event{Kind: api.EvBytes, Id: id, B: []byte(text)}
}
func drain(id, n int) api.Event { return api.Event{Kind: api.EvDrain, Id: id, N: n} }
func end(id int) api.Event      { return api.Event{Kind: api.EvClose, Id: id} }
func tick() api.Event           { return api.Event{Kind: api.EvTick} }

// login connects and registers somebody, and drains what it is told.
func login(t *testing.T, s *serve.Server, id int, nick string) {
	t.Helper()
	s.Step(connect(id))
	s.Step(send(id, "NICK "+nick+"\r\nUSER u 0 * r\r\n"))
	if _, ok := s.Person(id); !ok {
		t.Fatalf("%d can't be %s", id, nick)
	}
	s.Step(drain(id, 1<<40))
}

// expect drains all that waits for somebody, and checks it.
func expect(t *testing.T, s *serve.Server, id int, want ...string) {
	t.Helper()
	text := ""
	for _, line := range want {
		text += line + "\r\n"
	}
	if got := string(s.Step(drain(id, 1<<40))); got != text {
		t.Errorf("%d was told %q, not %q", id, got, text)
	}
}

func TestNew(t *testing.T) {
	if s, e := serve.New(api.Config{}); s != nil || e != api.ErrForm {
		t.Errorf("%v, %d", s, e)
	}
	if s, e := serve.New(api.Config{Name: "irc.x"}); s != nil || e != api.ErrRange {
		t.Errorf("%v, %d", s, e)
	}
}

func TestExample(t *testing.T) {
	s := made(t, nil)
	if got := s.Step(connect(1)); len(got) != 0 {
		t.Errorf("%q", got)
	}
	if got := s.Step(send(1, "PING x\r\n")); len(got) != 0 {
		t.Errorf("%q", got)
	}
	if got := string(s.Step(drain(1, 99))); got != ":irc.x PONG irc.x x\r\n" {
		t.Errorf("%q", got)
	}
}

func TestExamplesOfTheWhole(t *testing.T) {
	s := made(t, func(c *api.Config) { c.MaxSend = 512 })
	login(t, s, 1, "ann")
	login(t, s, 2, "bob")
	login(t, s, 3, "cid")
	s.Step(send(2, "CAP REQ away-notify\nJOIN #a\n"))
	s.Step(send(1, "JOIN #a\n"))
	for id := range 3 {
		s.Step(drain(id+1, 9999))
	}
	s.Step(send(1, "AWAY out\n"))
	expect(t, s, 2, ":ann!u@h AWAY out")
	s.Step(send(1, "AWAY out\n"))
	expect(t, s, 2)
	s.Step(send(3, "MONITOR + ann\n"))
	expect(t, s, 3, ":irc.x 730 cid ann!u@h")
	s.Step(send(1, "NICK x\n"))
	expect(t, s, 3, ":irc.x 731 cid ann")
	s.Step(drain(1, 9999))
	s.Step(drain(2, 9999))
	s.Tell(1, strings.Repeat("y", 502))
	s.Step(send(1, "PING a\r\n"))
	if s.Live(1) || !s.There(1) {
		t.Error("a line has no room: it leaves")
	}
	expect(t, s, 2, ":x!u@h QUIT :SendQ exceeded")
	if got := s.Step(drain(1, 9999)); len(got) != 504 || s.There(1) {
		t.Errorf("%d bytes can be drained still", len(got))
	}
}

func TestLine(t *testing.T) {
	s := made(t, nil)
	s.Step(connect(1))
	s.Line(1, api.Line{Long: true})
	s.Line(1, api.Line{Text: ""})
	s.Line(1, api.Line{Text: " PING x"})
	s.Line(1, api.Line{Text: "@ PING x"})
	s.Line(1, api.Line{Text: strings.Repeat("x", 511)})
	s.Line(1, api.Line{Text: "foo x"})
	s.Line(1, api.Line{Text: "001"})
	s.Line(1, api.Line{Text: "JOIN #a"})
	s.Line(1, api.Line{Text: "who"})
	s.Line(1, api.Line{Text: "@a=b :me ping :x y"})
	s.Line(9, api.Line{Text: "PING x"})
	expect(t, s, 1, ":irc.x 417 * :Input line was too long", ":irc.x 421 * FOO :Unknown command", ":irc.x 421 * 001 :Unknown command", ":irc.x 451 * :You have not registered", ":irc.x 451 * :You have not registered", ":irc.x PONG irc.x :x y")
	login(t, s, 2, "ann")
	s.Step(send(2, strings.Repeat("x", 511)+"\nFOO\n"))
	expect(t, s, 2, ":irc.x 417 ann :Input line was too long", ":irc.x 421 ann FOO :Unknown command")
}

func TestEvents(t *testing.T) {
	s := made(t, func(c *api.Config) { c.Reg = 2 })
	for _, e := range []api.Event{{}, {Kind: 6, Id: 1, Host: "h"}, {Kind: -1}, send(1, "PING\n"), drain(1, 5), end(1), {Kind: api.EvConnect, Id: -1, Host: "h"}} {
		if got := s.Step(e); len(got) != 0 || s.There(1) {
			t.Errorf("%v: %q", e, got)
		}
	}
	s.Step(connect(1))
	s.Step(api.Event{Kind: api.EvConnect, Id: 1, Host: "other"})
	if s.Host(1) != "h" {
		t.Error("one of that number is there")
	}
	s.Step(send(1, "PING a\nPING b"))
	s.Step(end(1))
	if s.There(1) || len(s.Step(drain(1, 9))) != 0 {
		t.Error("it is forgotten")
	}
	s.Step(connect(1))
	s.Step(send(1, "\n"))
	expect(t, s, 1)
	s.Step(tick())
	s.Step(tick())
	expect(t, s, 1, "ERROR :Closing Link: h (Registration timeout)")
	if s.There(1) || s.Now() != 2 {
		t.Errorf("at %d", s.Now())
	}
}

func TestLinesOfWhoLeft(t *testing.T) {
	s := made(t, nil)
	login(t, s, 1, "ann")
	login(t, s, 2, "bob")
	s.Step(send(1, "JOIN #a\nPRIVMSG bob a\nQUIT\nPRIVMSG bob b\n"))
	expect(t, s, 2, ":ann!u@h PRIVMSG bob a")
	s.Step(send(1, "PRIVMSG bob c\n"))
	expect(t, s, 2)
}

func TestHeard(t *testing.T) {
	s := made(t, func(c *api.Config) { c.Ping, c.Grace = 2, 1 })
	login(t, s, 1, "ann")
	for range 10 {
		s.Step(tick())
		s.Step(send(1, "x"))
		s.Step(send(1, " y\n"))
	}
	if !s.Live(1) {
		t.Error("lines came of it, if they were no commands too")
	}
	s.Step(drain(1, 9999))
	s.Step(send(1, "PONG"))
	s.Step(tick())
	expect(t, s, 1)
	s.Step(tick())
	expect(t, s, 1, "PING irc.x")
	s.Step(tick())
	expect(t, s, 1, "ERROR :Closing Link: h (Ping timeout)")
}

func TestRun(t *testing.T) {
	s := made(t, nil)
	b := []byte("PING x\n")
	events := []api.Event{connect(1), drain(1, 5), {Kind: api.EvBytes, Id: 1, B: b}, drain(1, 0), drain(1, 1), drain(1, 6), connect(2), tick(), drain(1, 99), drain(9, 9)}
	seq := s.Run(events...)
	events[0], b[5] = tick(), 'y'
	if s.There(1) {
		t.Error("they happen as they are gone through")
	}
	out := ""
	for id, b := range seq {
		out += string(rune('0'+id)) + string(b) + "|"
		for i := range b {
			b[i] = '?'
		}
	}
	if out != "1:|1irc.x |1PONG irc.x x\r\n|" || s.Now() != 1 || !s.Live(2) {
		t.Errorf("%q", out)
	}
	for range s.Run(send(1, "PING a\n"), drain(1, 3), drain(1, 3), tick()) {
		break
	}
	if s.Now() != 1 || s.Waits(1) == 0 {
		t.Error("what isn't gone through doesn't happen")
	}
}

func TestNilServer(t *testing.T) {
	for _, s := range []*serve.Server{nil, {}} {
		s.Line(1, api.Line{Text: "PING x"})
		if got := s.Step(connect(1)); len(got) != 0 {
			t.Errorf("%q", got)
		}
		seq := s.Run(connect(1), send(1, "PING x\n"), drain(1, 99))
		if seq == nil {
			t.Fatal("it is nil")
		}
		for range seq {
			t.Error("something happens")
		}
	}
}

func TestPartingMakesNoDifference(t *testing.T) {
	text := "NICK ann\r\nUSER u 0 * r\r\n\nJOIN #a,#b\rPRIVMSG #a :x y\n" + strings.Repeat("z", 600) + "\r\nNAMES #a\r\nLIST\nQUIT :bye\nPING x\n"
	var want []byte
	for by := range len(text) {
		s := made(t, nil)
		s.Step(connect(1))
		var got []byte
		for i := 0; i < len(text); i += by + 1 {
			s.Step(send(1, text[i:min(len(text), i+by+1)]))
			if by%2 == 0 {
				got = append(got, s.Step(drain(1, by))...)
			}
		}
		got = append(got, s.Step(drain(1, 1<<40))...)
		if by == 0 {
			want = got
		}
		if !bytes.Equal(got, want) {
			t.Fatalf("by %d: %q, not %q", by+1, got, want)
		}
	}
	if !bytes.HasSuffix(want, []byte("ERROR :Closing Link: h (Quit: bye)\r\n")) || bytes.Count(want, []byte(" 417 ")) != 1 {
		t.Errorf("%q", want)
	}
}

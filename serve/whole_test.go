package serve_test

import (
	"bytes"
	"slices"
	"strconv"
	"strings"
	"testing"

	"rollcall/api"
	"rollcall/fold"
	"rollcall/message"
	"rollcall/serve"
)

// dice draws numbers, always the same ones of one start.
type dice uint64

// roll draws a number below n.
func (d *dice) roll(n int) int {
	*d = *d*6364136223846793005 + 1442695040888963407
	return int(uint64(*d)>>33) % n
}

// pick draws one of some texts.
func (d *dice) pick(l ...string) string {
	return l[d.roll(len(l))]
}

// nick, room and text draw what lines are made of.
func (d *dice) nick() string {
	return d.pick("ann", "ANN", "bob", "cid", "d[n", "D{N", "eve", "1x", "fay")
}
func (d *dice) room() string { return d.pick("#a", "#A", "#b", "#c[", "#C{", "#d", "x", "#e") }
func (d *dice) text() string {
	return d.pick("x", ":hi there", ":", "::", ":"+strings.Repeat("long ", 30), "#a", "*")
}

// line draws a line.
func (d *dice) line() string {
	switch d.roll(24) {
	case 0, 1:
		return "NICK " + d.nick()
	case 2:
		return "USER u 0 * " + d.text()
	case 3, 4, 5:
		return "JOIN " + d.room() + "," + d.room() + " " + d.text()
	case 6:
		return "PART " + d.room() + " " + d.text()
	case 7:
		return "KICK " + d.room() + " " + d.nick() + " " + d.text()
	case 8:
		return "MODE " + d.room() + " " + d.pick("+", "-") + d.pick("i", "m", "n", "s", "t", "ov", "b", "k", "l", "bbb") + " " + d.nick() + " " + d.text()
	case 9:
		return "MODE " + d.nick() + " " + d.pick("+i", "-i", "-o", "x")
	case 10, 11:
		return d.pick("PRIVMSG ", "NOTICE ") + d.nick() + "," + d.room() + " " + d.text()
	case 12, 13:
		return "AWAY " + d.text()
	case 14:
		return "MONITOR " + d.pick("+ ", "+ ", "- ", "C ") + d.nick() + "," + d.nick()
	case 15:
		return "WATCH " + d.pick("+", "+", "-") + d.nick() + " " + d.pick("x", "C", "+ann")
	case 16:
		return d.pick("WHO ", "WHOIS ", "WHOWAS ", "NAMES ", "LIST ", "ISON ", "USERHOST ") + d.pick(d.nick(), d.room(), "*")
	case 17:
		return d.pick("CAP REQ away-notify", "CAP REQ :echo-message multi-prefix", "CAP END", "CAP LS", "CAP REQ -away-notify")
	case 18:
		return "TOPIC " + d.room() + " " + d.text()
	case 19:
		return "INVITE " + d.nick() + " " + d.room()
	case 20:
		return d.pick("QUIT", "KILL "+d.nick(), "OPER op pw", "OPER op pw", "PING x", "PONG")
	case 21:
		return d.pick("PING", "MODE", "foo", "PASS x", strings.Repeat("y", 520), "@a=b PING z", "\xff", "JOIN 0")
	}
	return "USER u 0 * r\r\nNICK " + d.nick()
}

const people = 9 // who may be there, from 0 on

// event draws an event; most of them are lines.
func (d *dice) event() api.Event {
	id := d.roll(people)
	switch n := d.roll(40); {
	case n < 5:
		return connect(id)
	case n == 5 && d.roll(4) == 0:
		return end(id)
	case n < 8:
		return tick()
	}
	return send(id, d.line()+"\r\n")
}

// check finds what may not be behind an event.
func check(t *testing.T, s *serve.Server, e api.Event) {
	t.Helper()
	if s.Settle() != 0 {
		t.Fatalf("behind %v somebody is dying", e)
	}
	conf, nicks := s.Config(), map[string]int{}
	for id := range people {
		if s.Waits(id) > conf.MaxSend || s.Rooms().Count(id) > conf.MaxJoined || s.Monitor().Count(id) > conf.MaxMon || s.Watch().Count(id) > conf.MaxWatch {
			t.Fatalf("behind %v %d has too many", e, id)
		}
		p, ok := s.Person(id)
		if !ok {
			if s.Rooms().Count(id) != 0 || s.Monitor().Count(id) != 0 || s.Watch().Count(id) != 0 {
				t.Fatalf("behind %v %d isn't registered, but on something", e, id)
			}
			continue
		}
		folded := fold.Text(p.Nick)
		if other, there := nicks[folded]; there {
			t.Fatalf("behind %v %d and %d are both %s", e, other, id, p.Nick)
		}
		nicks[folded] = id
		if holder, held := s.Holder(p.Nick); !held || holder != id {
			t.Fatalf("behind %v %s is held by %d", e, p.Nick, holder)
		}
	}
}

// whole are the messages of some bytes, which must be whole lines.
func whole(t *testing.T, b []byte) []api.Msg {
	t.Helper()
	var l []api.Msg
	for line := range bytes.Lines(b) {
		text, ended := strings.CutSuffix(string(line), "\r\n")
		m, e := message.Parse(text)
		if !ended || e != api.OK {
			t.Fatalf("%q is no whole line: %d", line, e)
		}
		l = append(l, m)
	}
	return l
}

// seen is what a watcher was told last, by its number and the folded nickname.
type seen map[string]bool

// learn takes in a message that somebody was told.
func (k seen) learn(t *testing.T, id int, m api.Msg, yes, no []string, off string) {
	t.Helper()
	nick, _, _ := strings.Cut(message.Param(m, 1), "!")
	key := strconv.Itoa(id) + fold.Text(nick)
	if m.Command == off {
		delete(k, key)
	}
	state := slices.Contains(yes, m.Command)
	if !state && !slices.Contains(no, m.Command) {
		return
	}
	if was, told := k[key]; told && was == state {
		t.Fatalf("%d was told twice: %v", id, m)
	}
	k[key] = state
}

// agree finds whether a watcher was told the state of each nickname on its list, and forgets the others.
func (k seen) agree(t *testing.T, s *serve.Server, id int, list func(func(string) bool), e api.Event) {
	t.Helper()
	on := map[string]bool{}
	for name := range list {
		key := strconv.Itoa(id) + fold.Text(name)
		on[key] = true
		holder, held := s.Holder(name)
		_, registered := s.Person(holder)
		if state, told := k[key]; !told || state != (held && registered) {
			t.Fatalf("behind %v: %d was told %v, %v of %s", e, id, state, told, name)
		}
	}
	for key := range k {
		if strings.HasPrefix(key, strconv.Itoa(id)) && !on[key] {
			delete(k, key)
		}
	}
}

func TestWatchersAreToldEachChange(t *testing.T) {
	for start := range 12 {
		s := made(t, func(c *api.Config) {
			c.OperName, c.OperPass, c.MaxMon, c.MaxWatch, c.MaxJoined, c.MaxSend = "op", "pw", 3, 3, 3, 65536
		})
		d := dice(start)
		monitors, watches := seen{}, seen{}
		told := 0
		for range 4000 {
			e := d.event()
			s.Step(e)
			check(t, s, e)
			for id := range people {
				for _, m := range whole(t, s.Step(drain(id, 1<<40))) {
					monitors.learn(t, id, m, []string{"730"}, []string{"731"}, "")
					watches.learn(t, id, m, []string{"604", "600"}, []string{"605", "601"}, "602")
					told++
				}
				monitors.agree(t, s, id, s.Monitor().Of(id), e)
				watches.agree(t, s, id, s.Watch().Of(id), e)
			}
		}
		if told < 1000 {
			t.Errorf("only %d lines were told", told)
		}
	}
}

func TestOverrun(t *testing.T) {
	for start := range 12 {
		s := made(t, func(c *api.Config) {
			c.OperName, c.OperPass, c.MaxSend, c.MaxConns, c.Ping, c.Grace, c.Reg = "op", "pw", 600, people-1, 20, 10, 9
		})
		d := dice(100 + start)
		text := make([][]byte, people)
		over := 0
		for range 6000 {
			e := d.event()
			if e.Kind == api.EvClose {
				text[e.Id] = nil
			}
			s.Step(e)
			check(t, s, e)
			if d.roll(3) == 0 {
				id := d.roll(people)
				text[id] = append(text[id], s.Step(drain(id, d.roll(900)))...)
			}
			for id := range people {
				if s.There(id) {
					continue
				}
				if bytes.Contains(text[id], []byte("SendQ")) {
					over++
				}
				whole(t, text[id])
				text[id] = nil
			}
		}
		if over == 0 {
			t.Error("nobody saw anybody overrun")
		}
	}
}

func TestDrainsAndPartsMakeNoDifference(t *testing.T) {
	for start := range 6 {
		var want [][]byte
		for way := range 3 {
			s := made(t, func(c *api.Config) { c.OperName, c.OperPass, c.MaxSend = "op", "pw", 65536 })
			d, other := dice(200+start), dice(300+way)
			text := make([][]byte, people)
			for range 1500 {
				e := d.event()
				// Who is gone is there as long as something waits, so all is drained ahead of what hangs on that.
				if e.Kind != api.EvBytes {
					for id := range people {
						text[id] = append(text[id], s.Step(drain(id, 1<<40))...)
					}
					s.Step(e)
					continue
				}
				for len(e.B) > 0 {
					n := len(e.B)
					if way > 0 {
						n = 1 + other.roll(n)
					}
					s.Step(send(e.Id, string(e.B[:n])))
					e.B = e.B[n:]
					if way == 2 {
						id := other.roll(people)
						text[id] = append(text[id], s.Step(drain(id, other.roll(50)))...)
					}
				}
			}
			for id := range people {
				text[id] = append(text[id], s.Step(drain(id, 1<<40))...)
			}
			if way == 0 {
				want = text
			} else if !slices.EqualFunc(text, want, bytes.Equal) {
				t.Fatalf("of %d, way %d tells something else", start, way)
			}
		}
	}
}

package serve_test

import (
	"strings"
	"testing"

	"rollcall/api"
	"rollcall/hall"
	"rollcall/sight"
	"rollcall/talk"
)

// any draws a text of any bytes.
func (d *dice) any() string {
	switch d.roll(12) {
	case 0:
		return ""
	case 1:
		return strings.Repeat(d.pick("x", ",", "+", "*", ":", "\xff", "b"), d.roll(700))
	case 2:
		return d.nick() + "," + d.room() + "," + d.any()
	case 3:
		return d.pick("+", "-", "C", "L", "S", "LS", "REQ", "+o-o", "b-b", "+i", "+k-k", "+l")
	case 4, 5:
		return d.room()
	case 6, 7:
		return d.nick()
	case 8:
		return d.text()
	}
	b := make([]byte, d.roll(30))
	for i := range b {
		b[i] = byte(d.roll(256))
	}
	return string(b)
}

func TestAnyMessage(t *testing.T) {
	commands := strings.Fields("CAP PASS NICK USER PING PONG QUIT PRIVMSG NOTICE AWAY OPER KILL JOIN PART KICK TOPIC NAMES LIST INVITE MODE ISON USERHOST WHOIS WHO WHOWAS MONITOR WATCH x")
	for start := range 8 {
		s := made(t, func(c *api.Config) { c.OperName, c.OperPass, c.MaxSend = "op", "pw", 65536 })
		d := dice(500 + start)
		for range 5000 {
			e := d.event()
			s.Step(e)
			m := api.Msg{Prefix: d.any(), Command: d.pick(commands...)}
			for range d.roll(20) {
				m.Params = append(m.Params, d.any())
			}
			id := d.roll(people+2) - 1
			done := 0
			for _, do := range []bool{talk.Do(s.Core, id, m), hall.Do(s.Core, id, m), sight.Do(s.Core, id, m)} {
				if do {
					done++
				}
			}
			if done > 1 {
				t.Fatalf("%s was done by %d layers", m.Command, done)
			}
			s.Settle()
			check(t, s, e)
			for id := range people {
				whole(t, s.Step(drain(id, 1<<40)))
			}
		}
	}
}

func TestAnyBytes(t *testing.T) {
	s := made(t, nil)
	d := dice(900)
	for range 20000 {
		id := d.roll(6) - 2
		switch d.roll(8) {
		case 0:
			s.Step(api.Event{Kind: api.EvConnect, Id: id, Host: d.any()})
		case 1:
			s.Step(api.Event{Kind: d.roll(9) - 2, Id: id, Host: d.any(), B: []byte(d.any()), N: d.roll(2000) - 100})
		case 2:
			s.Line(id, api.Line{Text: d.any(), Long: d.roll(9) == 0})
		default:
			s.Step(send(id, d.any()+d.pick("\n", "\r", "", " ")))
		}
		s.Settle()
		if id >= 0 && id < people {
			check(t, s, api.Event{})
		}
		whole(t, s.Step(drain(id, 1<<40)))
	}
}

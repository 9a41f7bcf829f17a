package serve_test

import (
	"slices"
	"strings"
	"testing"

	"rollcall/api"
	"rollcall/fold"
	"rollcall/message"
	"rollcall/serve"
)

// ask is what somebody is told to a line.
func ask(t *testing.T, s *serve.Server, id int, line string) []api.Msg {
	t.Helper()
	s.Step(drain(id, 1<<40))
	s.Step(send(id, line+"\n"))
	return whole(t, s.Step(drain(id, 1<<40)))
}

// spy finds what somebody is told of rooms and of people that it may not see.
func spy(t *testing.T, s *serve.Server, id int) (looked int) {
	t.Helper()
	me, _ := s.Person(id)
	rooms := map[string]bool{} // whether each may be seen
	for r := range s.Rooms().All() {
		_, member := r.Member(id)
		rooms[fold.Text(r.Name())] = member || me.Oper || !r.Flag('s')
	}
	lines := []string{"LIST", "WHO *"}
	for name := range rooms {
		lines = append(lines, "LIST "+name, "NAMES "+name, "WHO "+name)
	}
	slices.Sort(lines)
	for other := range people {
		if p, ok := s.Person(other); ok {
			lines = append(lines, "WHOIS "+p.Nick)
		}
	}
	for _, line := range lines {
		for _, m := range ask(t, s, id, line) {
			name, nicks := "", ""
			switch m.Command {
			case "322":
				name = message.Param(m, 1)
			case "352":
				name, nicks = message.Param(m, 1), message.Param(m, 5)
			case "353":
				name, nicks = message.Param(m, 2), message.Param(m, 3)
			case "319":
				name = message.Param(m, 2)
			default:
				continue
			}
			looked++
			for word := range strings.FieldsSeq(name) {
				if may, there := rooms[fold.Text(strings.TrimLeft(word, "@+"))]; there && !may {
					t.Fatalf("%d learns of %s by %q", id, word, line)
				}
			}
			for nick := range strings.FieldsSeq(nicks) {
				holder, _ := s.Holder(strings.TrimLeft(nick, "@+"))
				p, _ := s.Person(holder)
				if p.Hidden && !me.Oper && holder != id && !s.Rooms().Common(id, holder) {
					t.Fatalf("%d sees %s by %q", id, nick, line)
				}
			}
		}
	}
	return looked
}

func TestWhatIsSecretAndWhoIsHidden(t *testing.T) {
	looked := 0
	for start := range 6 {
		s := made(t, func(c *api.Config) { c.OperName, c.OperPass, c.MaxSend = "op", "pw", 65536 })
		d := dice(700 + start)
		for n := range 3000 {
			e := d.event()
			s.Step(e)
			if id := d.roll(people); s.Live(id) {
				s.Step(send(id, d.pick("MODE #a +s", "MODE #b +s", "MODE #c[ +s", "MODE "+s.Sign(id).Nick+" +i", "")+"\n"))
			}
			if id := n % people; n%20 == 0 {
				if _, ok := s.Person(id); ok {
					looked += spy(t, s, id)
				}
			}
			for id := range people {
				s.Step(drain(id, 1<<40))
			}
		}
	}
	if looked < 1000 {
		t.Errorf("only %d lines were looked at", looked)
	}
}

package pulse_test

import (
	"iter"
	"strconv"
	"testing"

	"rollcall/api"
	"rollcall/pulse"
)

// made is a pulse with these numbers.
func made(ping, grace, reg int) *pulse.Pulse {
	return pulse.New(api.Config{Ping: ping, Grace: grace, Reg: reg})
}

// told is what is due, as a text.
func told(seq iter.Seq2[int, int]) string {
	out := ""
	for id, what := range seq {
		out += strconv.Itoa(id) + [...]string{"?", "late", "ask", "dead"}[what] + " "
	}
	return out
}

// expect checks what is due at a tick.
func expect(t *testing.T, p *pulse.Pulse, now int, want string) {
	t.Helper()
	if got := told(p.Due(now)); got != want {
		t.Errorf("at %d: %q, not %q", now, got, want)
	}
}

func TestExample(t *testing.T) {
	p := made(2, 1, 5)
	p.Join(1, 0)
	p.Register(1, 0)
	expect(t, p, 1, "")
	expect(t, p, 2, "1ask ")
	expect(t, p, 2, "")
	expect(t, p, 3, "1dead ")
	expect(t, p, 4, "1dead ")
}

func TestLate(t *testing.T) {
	p := made(1, 1, 3)
	p.Join(7, 10)
	p.Line(7, 12)
	expect(t, p, 12, "")
	expect(t, p, 13, "7late ")
	expect(t, p, 99, "7late ")
	if n, ok := p.Idle(7, 14); n != 4 || !ok {
		t.Errorf("Idle: %d, %v", n, ok)
	}
	p.Register(7, 99)
	expect(t, p, 99, "")
	expect(t, p, 100, "7ask ")
}

func TestLineStartsAgain(t *testing.T) {
	p := made(3, 2, 9)
	p.Join(1, 0)
	p.Register(1, 0)
	expect(t, p, 3, "1ask ")
	p.Line(1, 4)
	expect(t, p, 5, "")
	expect(t, p, 6, "")
	expect(t, p, 7, "1ask ")
	expect(t, p, 8, "")
	expect(t, p, 9, "1dead ")
	p.Line(1, 9)
	expect(t, p, 9, "")
	if n, ok := p.Idle(1, 20); n != 11 || !ok {
		t.Errorf("Idle: %d, %v", n, ok)
	}
}

func TestDeadWithoutAsk(t *testing.T) {
	p := made(3, 2, 9)
	p.Join(1, 0)
	p.Register(1, 0)
	expect(t, p, 5, "1dead ")
	expect(t, p, 4, "1ask ")
	if n, ok := p.Idle(1, 4); n != 4 || !ok {
		t.Errorf("Idle behind an Ask: %d, %v", n, ok)
	}
}

func TestRisingAndAsItWas(t *testing.T) {
	p := made(2, 10, 4)
	for _, id := range []int{5, 1, 3, -2, 4} {
		p.Join(id, 0)
	}
	p.Register(4, 0)
	p.Register(1, 1)
	p.Register(-2, 3)
	seq := p.Due(4)
	p.Leave(5)
	p.Line(4, 4)
	for range 2 {
		if got := told(seq); got != "1ask 3late 4ask 5late " {
			t.Errorf("%q", got)
		}
	}
	expect(t, p, 5, "-2ask 3late ")
	for id := range p.Due(5) {
		if id != 3 {
			t.Errorf("%d", id)
		}
		break
	}
}

func TestAskGoesOutWhenDueIsCalled(t *testing.T) {
	p := made(2, 10, 4)
	p.Join(1, 0)
	p.Register(1, 0)
	p.Due(2)
	expect(t, p, 3, "")
}

func TestJoinInThePlaceOfAnother(t *testing.T) {
	p := made(2, 1, 4)
	p.Join(1, 0)
	p.Register(1, 0)
	expect(t, p, 2, "1ask ")
	p.Join(1, 2)
	expect(t, p, 5, "")
	expect(t, p, 6, "1late ")
	p.Join(1, 6)
	expect(t, p, 9, "")
	if n, _ := p.Idle(1, 9); n != 3 {
		t.Errorf("Idle: %d", n)
	}
}

func TestLeave(t *testing.T) {
	p := made(2, 5, 4)
	for id := range 3 {
		p.Join(id, 0)
	}
	p.Register(0, 0)
	expect(t, p, 2, "0ask ")
	p.Register(1, 0)
	for id := range 3 {
		p.Leave(id)
		if n, ok := p.Idle(id, 9); n != 0 || ok {
			t.Errorf("%d is there: %d, %v", id, n, ok)
		}
	}
	expect(t, p, 1<<40, "")
	p.Join(1, 0)
	p.Register(1, 0)
	p.Join(1, 1)
	expect(t, p, 4, "")
	expect(t, p, 5, "1late ")
}

func TestNumbersThatArentThere(t *testing.T) {
	p := made(1, 1, 1)
	p.Register(1, 0)
	p.Line(1, 0)
	p.Leave(1)
	expect(t, p, 1<<40, "")
	if n, ok := p.Idle(1, 5); n != 0 || ok {
		t.Errorf("Idle: %d, %v", n, ok)
	}
	p.Join(1, 0)
	p.Leave(1)
	p.Leave(1)
	p.Line(1, 3)
	expect(t, p, 9, "")
}

func TestSmallAndGreatNumbers(t *testing.T) {
	p := made(0, -5, -1<<63)
	p.Join(1, 0)
	p.Join(2, 0)
	p.Register(2, 0)
	expect(t, p, 0, "")
	expect(t, p, 1, "1late 2ask ")
	expect(t, p, 2, "1late 2dead ")
	most := 1<<63 - 1
	p = made(most, most, most)
	p.Join(1, 1<<40)
	p.Join(2, 0)
	p.Register(2, 0)
	expect(t, p, 1<<40, "")
	if n, ok := p.Idle(2, 1<<40); n != 1<<40 || !ok {
		t.Errorf("Idle: %d, %v", n, ok)
	}
}

func TestNeverDeadWithLines(t *testing.T) {
	p := made(3, 2, 5)
	p.Join(1, 0)
	p.Register(1, 0)
	asked := 0
	for now := 1; now < 200; now++ {
		for _, what := range p.Due(now) {
			switch what {
			case api.PulseAsk:
				asked++
			default:
				t.Fatalf("at %d: %d", now, what)
			}
		}
		if now%4 == 0 {
			p.Line(1, now)
		}
	}
	if asked == 0 {
		t.Error("it was never asked")
	}
}

func TestNilPulse(t *testing.T) {
	var p *pulse.Pulse
	p.Join(1, 0)
	p.Register(1, 0)
	p.Line(1, 0)
	p.Leave(1)
	if n, ok := p.Idle(1, 0); n != 0 || ok {
		t.Errorf("Idle: %d, %v", n, ok)
	}
	if p.Due(0) == nil {
		t.Fatal("Due is nil")
	}
	expect(t, p, 9, "")
}

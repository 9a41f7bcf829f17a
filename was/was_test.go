package was_test

import (
	"iter"
	"strconv"
	"testing"

	"rollcall/api"
	"rollcall/was"
)

// made is a past of at most so many, or the test ends.
func made(t *testing.T, most int) *was.Past[int] {
	t.Helper()
	p, e := was.New[int](most)
	if p == nil || e != api.OK {
		t.Fatalf("New(%d): %d", most, e)
	}
	return p
}

// tell is what a function tells, as a text.
func tell(t *testing.T, seq iter.Seq2[string, int]) string {
	t.Helper()
	if seq == nil {
		t.Fatal("a function is nil")
	}
	out := ""
	for name, v := range seq {
		out += name + strconv.Itoa(v) + " "
	}
	return out
}

func TestNew(t *testing.T) {
	for _, most := range []int{-1, -1 << 63, 100001, 1<<63 - 1} {
		if p, e := was.New[int](most); p != nil || e != api.ErrRange {
			t.Errorf("New(%d): %v, %d", most, p, e)
		}
	}
	made(t, 100000)
	none := made(t, 0)
	none.Put("a", 1)
	if none.Len() != 0 || tell(t, none.All()) != "" || tell(t, none.Find("a")) != "" {
		t.Error("nothing is remembered")
	}
}

func TestExample(t *testing.T) {
	p := made(t, 2)
	p.Put("a", 1)
	if got := tell(t, p.All()); got != "a1 " || p.Len() != 1 {
		t.Errorf("one: %q", got)
	}
	p.Put("b", 2)
	if got := tell(t, p.All()); got != "b2 a1 " || p.Len() != 2 {
		t.Errorf("two: %q", got)
	}
	p.Put("A", 3)
	if got := tell(t, p.All()); got != "A3 b2 " || p.Len() != 2 {
		t.Errorf("three: %q", got)
	}
	if got := tell(t, p.Find("a")); got != "A3 " {
		t.Errorf("Find: %q", got)
	}
}

func TestWrittenRound(t *testing.T) {
	for most := 1; most < 6; most++ {
		p := made(t, most)
		var all []string
		for i := range 20 {
			p.Put("n", i)
			all = append([]string{"n" + strconv.Itoa(i) + " "}, all...)
			want := ""
			for _, s := range all[:min(most, len(all))] {
				want += s
			}
			if got := tell(t, p.All()); got != want || p.Len() != min(most, i+1) {
				t.Fatalf("of %d: %q, not %q", most, got, want)
			}
			if got := tell(t, p.Find("N")); got != want {
				t.Fatalf("of %d: found %q, not %q", most, got, want)
			}
		}
	}
}

func TestFind(t *testing.T) {
	p := made(t, 10)
	for i, name := range []string{"x[", "y", "X{", "", "x", "y~"} {
		p.Put(name, i)
	}
	for name, want := range map[string]string{"x{": "X{2 x[0 ", "Y": "y1 ", "": "3 ", "Y^": "y~5 ", "z": "", "x*": ""} {
		if got := tell(t, p.Find(name)); got != want {
			t.Errorf("Find(%q): %q", name, got)
		}
	}
}

func TestAsItWas(t *testing.T) {
	p := made(t, 2)
	p.Put("a", 1)
	p.Put("a", 2)
	all, found := p.All(), p.Find("a")
	p.Put("a", 3)
	for range 2 {
		if x, y := tell(t, all), tell(t, found); x != "a2 a1 " || y != "a2 a1 " {
			t.Errorf("%q, %q", x, y)
		}
	}
	n := 0
	for range p.All() {
		n++
		break
	}
	for range p.Find("a") {
		n++
		break
	}
	if n != 2 {
		t.Error("a loop may stop")
	}
}

func TestNilPast(t *testing.T) {
	var p *was.Past[int]
	p.Put("a", 1)
	if p.Len() != 0 || tell(t, p.All()) != "" || tell(t, p.Find("a")) != "" {
		t.Error("a nil past has something")
	}
}

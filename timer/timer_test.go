package timer_test

import (
	"slices"
	"strconv"
	"testing"

	"rollcall/timer"
)

const most = 1<<63 - 1

// told is what is due, as a text.
func told[K int | string](t *timer.Table[K], now int) string {
	out := ""
	for k, at := range t.Due(now) {
		switch key := any(k).(type) {
		case int:
			out += strconv.Itoa(key)
		case string:
			out += key
		}
		out += "@" + strconv.Itoa(at) + " "
	}
	return out
}

func TestSetStopAt(t *testing.T) {
	x := timer.New[string]()
	if _, ok := x.At("a"); ok || x.Len() != 0 || x.Stop("a") {
		t.Error("it has keys")
	}
	x.Set("a", 5)
	x.Set("a", -7)
	x.Set("", most)
	if at, ok := x.At("a"); at != -7 || !ok || x.Len() != 2 {
		t.Errorf("a: %d, %v; %d", at, ok, x.Len())
	}
	if at, ok := x.At(""); at != most || !ok {
		t.Errorf("the empty key: %d, %v", at, ok)
	}
	if !x.Stop("a") || x.Stop("a") || x.Len() != 1 {
		t.Error("it goes once")
	}
	if at, ok := x.At("a"); at != 0 || ok {
		t.Errorf("a went: %d, %v", at, ok)
	}
}

func TestExample(t *testing.T) {
	x := timer.New[string]()
	x.Set("b", 5)
	x.Set("a", 5)
	x.Set("c", 3)
	x.Set("d", 6)
	if k, at, ok := x.Next(); k != "c" || at != 3 || !ok {
		t.Errorf("Next: %q, %d, %v", k, at, ok)
	}
	if got := told(x, 5); got != "c@3 a@5 b@5 " || x.Len() != 4 {
		t.Errorf("Due: %q", got)
	}
	if got := x.Take(5); !slices.Equal(got, []string{"c", "a", "b"}) || x.Len() != 1 {
		t.Errorf("Take: %q", got)
	}
	if got := x.Take(5); len(got) != 0 {
		t.Errorf("Take again: %q", got)
	}
	if k, at, ok := x.Next(); k != "d" || at != 6 || !ok {
		t.Errorf("Next: %q, %d, %v", k, at, ok)
	}
}

func TestEdges(t *testing.T) {
	x := timer.New[int]()
	if k, at, ok := x.Next(); k != 0 || at != 0 || ok {
		t.Error("the first of none")
	}
	x.Set(-5, -1<<63)
	x.Set(5, -1<<63)
	x.Set(0, most)
	if got := told(x, -1<<63); got != "-5@-9223372036854775808 5@-9223372036854775808 " {
		t.Errorf("%q", got)
	}
	if got := x.Take(most); !slices.Equal(got, []int{-5, 5, 0}) || x.Len() != 0 {
		t.Errorf("%v", got)
	}
}

func TestAsTheyWere(t *testing.T) {
	x := timer.New[int]()
	for i := range 10 {
		x.Set(i, 10-i)
	}
	seq := x.Due(3)
	x.Set(9, 100)
	x.Stop(8)
	x.Set(1, 0)
	for range 2 {
		out := ""
		for k, at := range seq {
			out += strconv.Itoa(k) + "@" + strconv.Itoa(at) + " "
			x.Set(k, 50)
		}
		if out != "9@1 8@2 7@3 " {
			t.Errorf("%q", out)
		}
	}
	n := 0
	for range x.Due(most) {
		if n++; n == 2 {
			break
		}
	}
	if n != 2 {
		t.Error("a loop may stop")
	}
}

func TestOrderOfMany(t *testing.T) {
	x := timer.New[int]()
	for i := range 1000 {
		x.Set(i*7919%1000, i%13)
	}
	lastKey, lastAt, n := -1, -1, 0
	for k, at := range x.Due(11) {
		if at < lastAt || at == lastAt && k <= lastKey || at > 11 {
			t.Fatalf("%d@%d behind %d@%d", k, at, lastKey, lastAt)
		}
		if want, _ := x.At(k); want != at {
			t.Fatalf("%d@%d, not %d", k, at, want)
		}
		lastKey, lastAt = k, at
		n++
	}
	if len(x.Take(12)) != 1000 || x.Len() != 0 || n >= 1000 {
		t.Errorf("%d were due", n)
	}
}

func TestNilTable(t *testing.T) {
	var x *timer.Table[string]
	x.Set("a", 1)
	_, there := x.At("a")
	k, at, ok := x.Next()
	if there || x.Stop("a") || x.Len() != 0 || k != "" || at != 0 || ok || len(x.Take(most)) != 0 {
		t.Error("a nil table has something")
	}
	if x.Due(0) == nil {
		t.Fatal("Due is nil")
	}
	if told(x, most) != "" {
		t.Error("something is due")
	}
}

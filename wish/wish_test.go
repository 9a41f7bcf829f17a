package wish_test

import (
	"slices"
	"strings"
	"testing"

	"rollcall/api"
	"rollcall/wish"
)

// list is a client's list.
func list(l *wish.Lists, id int) string {
	return strings.Join(slices.Collect(l.Of(id)), " ")
}

func TestAdd(t *testing.T) {
	l := wish.New(2)
	for i, c := range []struct {
		id   int
		name string
		want api.Errno
		n    int
	}{
		{1, "Bob[", api.OK, 1}, {1, "bOB{", api.ErrThere, 1}, {1, "", api.OK, 2}, {1, "cid", api.ErrFull, 2}, {1, "BOB[", api.ErrThere, 2}, {2, "bob{", api.OK, 1}, {-3, "x y\x00", api.OK, 1},
	} {
		if e := l.Add(c.id, c.name); e != c.want || l.Count(c.id) != c.n {
			t.Errorf("%d: %d, then %d", i, e, l.Count(c.id))
		}
	}
	if !l.Has(1, "BOB{") || l.Has(1, "cid") || l.Has(9, "bob[") || !l.Has(1, "") {
		t.Error("Has")
	}
	if got := list(l, 1); got != " Bob[" {
		t.Errorf("%q", got)
	}
	if got := slices.Collect(l.By("BOB[")); !slices.Equal(got, []int{1, 2}) {
		t.Errorf("%v", got)
	}
	if got := slices.Collect(l.By("cid")); len(got) != 0 {
		t.Errorf("%v", got)
	}
	if e := wish.New(0).Add(1, "a"); e != api.ErrFull {
		t.Errorf("without room: %d", e)
	}
}

func TestRemoveAndClear(t *testing.T) {
	l := wish.New(9)
	for _, name := range []string{"bob", "Ann~", "cid", "[z"} {
		l.Add(1, name)
		l.Add(2, name)
	}
	if !l.Remove(1, "ANN^") || l.Remove(1, "ann~") || l.Remove(7, "bob") || l.Count(1) != 3 {
		t.Error("it goes once")
	}
	if got := list(l, 1); got != "bob cid [z" {
		t.Errorf("%q", got)
	}
	l.Add(1, "aNN~")
	if got := list(l, 1); got != "aNN~ bob cid [z" || list(l, 2) != "Ann~ bob cid [z" {
		t.Errorf("as spelled when it was added: %q", got)
	}
	if n := l.Clear(1); n != 4 || l.Count(1) != 0 || l.Clear(1) != 0 || l.Clear(9) != 0 || list(l, 1) != "" || l.Count(2) != 4 {
		t.Errorf("Clear: %d", n)
	}
}

func TestAsTheyWere(t *testing.T) {
	l := wish.New(9)
	l.Add(1, "a")
	l.Add(1, "b")
	l.Add(2, "b")
	of, by := l.Of(1), l.By("B")
	l.Clear(1)
	l.Add(3, "b")
	l.Add(1, "A")
	for range 2 {
		if a, b := slices.Collect(of), slices.Collect(by); !slices.Equal(a, []string{"a", "b"}) || !slices.Equal(b, []int{1, 2}) {
			t.Errorf("%q, %v", a, b)
		}
	}
}

func TestMonitor(t *testing.T) {
	for i, c := range []struct {
		params []string
		op     byte
		names  []string
	}{
		{nil, 0, nil}, {[]string{""}, 0, nil}, {[]string{"x", "a"}, 0, nil}, {[]string{"+a"}, 0, nil}, {[]string{"CL"}, 0, nil}, {[]string{" C"}, 0, nil},
		{[]string{"+", "ann,,1x,bob"}, '+', []string{"ann", "bob"}}, {[]string{"-", "b,a,b"}, '-', []string{"b", "a", "b"}}, {[]string{"+"}, '+', nil}, {[]string{"-", ""}, '-', nil},
		{[]string{"+", "a b,c,sixteenbytesxxxx,seventeenbytesxxx", "d"}, '+', []string{"c", "sixteenbytesxxxx"}}, {[]string{"+", " a,b"}, '+', []string{"b"}},
		{[]string{"C", "a"}, 'C', nil}, {[]string{"c"}, 'C', nil}, {[]string{"L"}, 'L', nil}, {[]string{"l", "a,b"}, 'L', nil}, {[]string{"S"}, 'S', nil}, {[]string{"s"}, 'S', nil},
	} {
		if op, names := wish.Monitor(c.params); op != c.op || !slices.Equal(names, c.names) {
			t.Errorf("%d: %q, %q", i, op, names)
		}
	}
}

func TestWatch(t *testing.T) {
	for i, c := range []struct {
		params []string
		want   []api.Wish
	}{
		{nil, []api.Wish{{Op: 'L'}}}, {[]string{}, []api.Wish{{Op: 'L'}}}, {[]string{""}, nil}, {[]string{"x", "+", "-", "+1a", "ann", "CC", "+a b"}, nil},
		{[]string{"+ann", "-bob", "c", "x"}, []api.Wish{{Op: '+', Name: "ann"}, {Op: '-', Name: "bob"}, {Op: 'C'}}},
		{[]string{"s", "L", "l", "S", "C", "+C", "+C"}, []api.Wish{{Op: 'S'}, {Op: 'L'}, {Op: 'L'}, {Op: 'S'}, {Op: 'C'}, {Op: '+', Name: "C"}, {Op: '+', Name: "C"}}},
	} {
		if got := wish.Watch(c.params); !slices.Equal(got, c.want) {
			t.Errorf("%d: %v, not %v", i, got, c.want)
		}
	}
}

func TestNilLists(t *testing.T) {
	var l *wish.Lists
	if e := l.Add(1, "a"); e != api.ErrArg {
		t.Errorf("Add: %d", e)
	}
	if l.Remove(1, "a") || l.Clear(1) != 0 || l.Has(1, "a") || l.Count(1) != 0 {
		t.Error("nil lists have something")
	}
	if l.Of(1) == nil || l.By("a") == nil {
		t.Fatal("a function is nil")
	}
	if list(l, 1) != "" || len(slices.Collect(l.By("a"))) != 0 {
		t.Error("something is told")
	}
	odd := wish.New(-1)
	odd.Add(1, "a")
	odd.Remove(1, "a")
	if odd.Clear(1) != 0 || list(odd, 1) != "" {
		t.Error("an odd number")
	}
}

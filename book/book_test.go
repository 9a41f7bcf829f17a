package book_test

import (
	"slices"
	"strconv"
	"testing"

	"rollcall/api"
	"rollcall/book"
	"rollcall/fold"
)

// made is a book for at most so many, or the test ends.
func made[V any](t *testing.T, most int) *book.Book[V] {
	t.Helper()
	b, e := book.New[V](most)
	if e != api.OK || b == nil {
		t.Fatalf("New(%d): %d", most, e)
	}
	return b
}

// names are the names that a book tells from one on.
func names(b *book.Book[int], from string) []string {
	var l []string
	for name := range b.From(from) {
		l = append(l, name)
	}
	return l
}

func TestNew(t *testing.T) {
	for _, most := range []int{-1, -1 << 63, api.MaxBook + 1, 1<<63 - 1} {
		if b, e := book.New[int](most); b != nil || e != api.ErrRange {
			t.Errorf("New(%d): %v, %d", most, b, e)
		}
	}
	for _, most := range []int{0, 1, api.MaxBook} {
		if b := made[string](t, most); b.Len() != 0 {
			t.Errorf("New(%d) has %d", most, b.Len())
		}
	}
	if e := made[int](t, 0).Put("a", 1); e != api.ErrFull {
		t.Errorf("Put without room: %d", e)
	}
}

func TestPutAndGet(t *testing.T) {
	b := made[int](t, 2)
	for i, c := range []struct {
		name string
		want api.Errno
		n    int
	}{
		{"Nick[", api.OK, 1}, {"nICK{", api.OK, 1}, {"", api.OK, 2}, {"x", api.ErrFull, 2}, {"NICK{", api.OK, 2},
	} {
		if e := b.Put(c.name, i); e != c.want || b.Len() != c.n {
			t.Errorf("Put(%q): %d, then %d", c.name, e, b.Len())
		}
	}
	if v, ok := b.Get("nick["); v != 4 || !ok {
		t.Errorf("Get: %d, %v", v, ok)
	}
	if s, ok := b.Name("nick["); s != "NICK{" || !ok {
		t.Errorf("Name: %q, %v", s, ok)
	}
	if v, ok := b.Get(""); v != 2 || !ok {
		t.Errorf("Get of the empty name: %d, %v", v, ok)
	}
	if v, ok := b.Get("x"); v != 0 || ok {
		t.Errorf("Get of none: %d, %v", v, ok)
	}
	if s, ok := b.Name("x"); s != "" || ok {
		t.Errorf("Name of none: %q, %v", s, ok)
	}
}

func TestDelete(t *testing.T) {
	b := made[int](t, 1)
	if b.Delete("a") {
		t.Error("there was none")
	}
	b.Put("a~", 1)
	if !b.Delete("A^") || b.Delete("a~") || b.Len() != 0 {
		t.Error("it goes once")
	}
	if e := b.Put("b", 2); e != api.OK {
		t.Errorf("the room is free again: %d", e)
	}
}

func TestOrder(t *testing.T) {
	b := made[int](t, 100)
	for i, name := range []string{"b", "[", "A", "", "a~", "^", "zz", "Z", "0", "\xff", "aB"} {
		b.Put(name, i)
	}
	want := []string{"", "0", "^", "A", "aB", "a~", "b", "Z", "zz", "[", "\xff"}
	slices.SortFunc(want, fold.Compare)
	if got := names(b, ""); !slices.Equal(got, want) {
		t.Errorf("all: %q, not %q", got, want)
	}
	var all []string
	for name, i := range b.All() {
		all = append(all, name)
		if v, _ := b.Get(name); v != i {
			t.Errorf("%q has %d, not %d", name, i, v)
		}
	}
	if !slices.Equal(all, want) {
		t.Errorf("All: %q, not %q", all, want)
	}
	for _, from := range []string{"a", "B", "a^", "{", "zzz", "\xff\xff", "AA"} {
		var rest []string
		for _, name := range want {
			if fold.Compare(name, from) >= 0 {
				rest = append(rest, name)
			}
		}
		if got := names(b, from); !slices.Equal(got, rest) {
			t.Errorf("From(%q): %q, not %q", from, got, rest)
		}
	}
}

func TestAsTheyWereWhenCalled(t *testing.T) {
	b := made[int](t, 10)
	b.Put("a", 1)
	b.Put("b", 2)
	all, from := b.All(), b.From("b")
	b.Put("B", 3)
	b.Put("c", 4)
	b.Delete("a")
	for range 2 {
		out := ""
		for name, v := range all {
			out += name + strconv.Itoa(v)
			b.Put("d", 5)
		}
		for name, v := range from {
			out += name + strconv.Itoa(v)
		}
		if out != "a1b2b2" {
			t.Errorf("told %q", out)
		}
	}
	n := 0
	for range b.All() {
		n++
		break
	}
	if n != 1 {
		t.Error("a loop may stop")
	}
}

func TestNilBook(t *testing.T) {
	var b *book.Book[int]
	if e := b.Put("a", 1); e != api.ErrArg {
		t.Errorf("Put: %d", e)
	}
	v, got := b.Get("a")
	s, named := b.Name("a")
	if v != 0 || got || s != "" || named || b.Delete("a") || b.Len() != 0 {
		t.Error("a nil book has something")
	}
	if b.All() == nil || b.From("") == nil {
		t.Fatal("what ranges is nil")
	}
	for range b.All() {
		t.Error("All")
	}
	for range b.From("") {
		t.Error("From")
	}
}

func TestFullBook(t *testing.T) {
	b := made[int](t, api.MaxBook)
	for i := range api.MaxBook {
		if e := b.Put("n"+strconv.Itoa(i), i); e != api.OK {
			t.Fatalf("Put %d: %d", i, e)
		}
	}
	if e := b.Put("more", 0); e != api.ErrFull || b.Len() != api.MaxBook {
		t.Errorf("one more: %d, then %d", e, b.Len())
	}
}

package pair_test

import (
	"cmp"
	"iter"
	"slices"
	"testing"

	"rollcall/api"
	"rollcall/pair"
)

// made is a relation, or the test ends.
func made[A, B cmp.Ordered](t *testing.T, most int) *pair.Rel[A, B] {
	t.Helper()
	r, e := pair.New[A, B](most)
	if r == nil || e != api.OK {
		t.Fatalf("New(%d): %d", most, e)
	}
	return r
}

// told is what a function tells.
func told[T any](t *testing.T, seq iter.Seq[T]) []T {
	t.Helper()
	if seq == nil {
		t.Fatal("a function is nil")
	}
	return slices.Collect(seq)
}

func TestNew(t *testing.T) {
	for _, most := range []int{-1, -1 << 63, 100001, 1<<63 - 1} {
		if r, e := pair.New[int, string](most); r != nil || e != api.ErrRange {
			t.Errorf("New(%d): %v, %d", most, r, e)
		}
	}
	made[int, string](t, 100000)
	none := made[int, string](t, 0)
	if e := none.Add(1, "a"); e != api.ErrFull || none.Len() != 0 {
		t.Errorf("without room: %d", e)
	}
}

func TestAdd(t *testing.T) {
	r := made[int, string](t, 2)
	for i, c := range []struct {
		a    int
		b    string
		want api.Errno
		n    int
	}{
		{1, "b", api.OK, 1}, {1, "b", api.ErrThere, 1}, {1, "a", api.OK, 2}, {1, "c", api.ErrFull, 2}, {1, "a", api.ErrThere, 2},
		{2, "b", api.OK, 3}, {-5, "", api.OK, 4}, {2, "B", api.OK, 5},
	} {
		if e := r.Add(c.a, c.b); e != c.want || r.Len() != c.n {
			t.Errorf("%d: %d, then %d", i, e, r.Len())
		}
	}
	if r.Count(1) != 2 || r.Count(-5) != 1 || r.Count(7) != 0 {
		t.Error("Count")
	}
	if !r.Has(1, "a") || r.Has(1, "c") || r.Has(7, "a") || !r.Has(-5, "") {
		t.Error("Has")
	}
	if got := told(t, r.Of(1)); !slices.Equal(got, []string{"a", "b"}) {
		t.Errorf("Of: %q", got)
	}
	if got := told(t, r.By("b")); !slices.Equal(got, []int{1, 2}) {
		t.Errorf("By: %v", got)
	}
	if len(told(t, r.Of(7))) != 0 || len(told(t, r.By("c"))) != 0 {
		t.Error("of those that aren't there")
	}
}

func TestRemoveAndDrop(t *testing.T) {
	r := made[string, int](t, 3)
	for _, b := range []int{3, 1, 2} {
		r.Add("x", b)
		r.Add("y", b)
	}
	if !r.Remove("x", 1) || r.Remove("x", 1) || r.Remove("z", 1) || r.Len() != 5 || r.Has("x", 1) || !r.Has("y", 1) {
		t.Error("Remove")
	}
	if e := r.Add("x", 9); e != api.OK {
		t.Errorf("there is room again: %d", e)
	}
	if n := r.Drop("x"); n != 3 || r.Len() != 3 || r.Count("x") != 0 || r.Drop("x") != 0 || r.Drop("z") != 0 {
		t.Errorf("Drop: %d, then %d", n, r.Len())
	}
	if got := told(t, r.By(3)); !slices.Equal(got, []string{"y"}) || len(told(t, r.By(9))) != 0 {
		t.Errorf("By: %q", got)
	}
}

func TestAsTheyWere(t *testing.T) {
	r := made[int, int](t, 9)
	r.Add(1, 1)
	r.Add(1, 2)
	r.Add(2, 2)
	of, by := r.Of(1), r.By(2)
	r.Drop(1)
	r.Add(1, 7)
	r.Add(3, 2)
	for range 2 {
		if a, b := told(t, of), told(t, by); !slices.Equal(a, []int{1, 2}) || !slices.Equal(b, []int{1, 2}) {
			t.Errorf("%v, %v", a, b)
		}
	}
	for b := range r.Of(1) {
		r.Remove(1, b)
		r.Add(1, b+1)
	}
	if got := told(t, r.Of(1)); !slices.Equal(got, []int{8}) {
		t.Errorf("changed meanwhile: %v", got)
	}
}

func TestNilRelation(t *testing.T) {
	var r *pair.Rel[int, string]
	if e := r.Add(1, "a"); e != api.ErrArg {
		t.Errorf("Add: %d", e)
	}
	if r.Remove(1, "a") || r.Drop(1) != 0 || r.Has(1, "a") || r.Count(1) != 0 || r.Len() != 0 {
		t.Error("a nil relation has something")
	}
	if len(told(t, r.Of(1))) != 0 || len(told(t, r.By("a"))) != 0 {
		t.Error("it tells something")
	}
}

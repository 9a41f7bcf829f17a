package set_test

import (
	"iter"
	"math"
	"slices"
	"testing"

	"rollcall/set"
)

// told is what a function tells.
func told[T any](t *testing.T, seq iter.Seq[T]) []T {
	t.Helper()
	if seq == nil {
		t.Fatal("a function is nil")
	}
	return slices.Collect(seq)
}

func TestOf(t *testing.T) {
	l := []int{3, 1, 2, 3, 1, math.MinInt, math.MaxInt}
	s := set.Of(l...)
	if got := s.List(); !slices.Equal(got, []int{math.MinInt, 1, 2, 3, math.MaxInt}) || s.Len() != 5 {
		t.Errorf("%v, %d", got, s.Len())
	}
	if !slices.Equal(l, []int{3, 1, 2, 3, 1, math.MinInt, math.MaxInt}) {
		t.Error("what was handed in was changed")
	}
	l[0] = 9
	if s.Has(9) || !s.Has(3) {
		t.Error("what was handed in was kept")
	}
	if empty := set.Of[string](); empty == nil || empty.Len() != 0 || len(empty.List()) != 0 || len(told(t, empty.All())) != 0 {
		t.Error("of nothing")
	}
}

func TestAddAndRemove(t *testing.T) {
	s := set.Of("b")
	if n := s.Add("c", "a", "b", "c"); n != 2 || s.Len() != 3 {
		t.Errorf("%d came", n)
	}
	if n := s.Add(); n != 0 {
		t.Errorf("%d came of nothing", n)
	}
	if got := s.List(); !slices.Equal(got, []string{"a", "b", "c"}) {
		t.Errorf("%q", got)
	}
	if n := s.Remove("x", "a", "a", "c", ""); n != 2 || s.Has("a") || !s.Has("b") || s.Has("") {
		t.Errorf("%d went", n)
	}
	if n := s.Remove(); n != 0 || s.Len() != 1 {
		t.Errorf("%d went of nothing", n)
	}
}

func TestListIsNew(t *testing.T) {
	s := set.Of(1, 2, 3)
	l := s.List()
	l[0] = 9
	_ = append(l[:1], 8)
	if got := s.List(); !slices.Equal(got, []int{1, 2, 3}) {
		t.Errorf("%v", got)
	}
}

func TestAllAsTheyWere(t *testing.T) {
	s, other := set.Of(1, 2, 3), set.Of(5)
	all, union := s.All(), set.Union(s, other)
	s.Add(4, 0)
	s.Remove(2)
	other.Add(6)
	for range 2 {
		if got := told(t, all); !slices.Equal(got, []int{1, 2, 3}) {
			t.Errorf("All: %v", got)
		}
		if got := told(t, union); !slices.Equal(got, []int{1, 2, 3, 5}) {
			t.Errorf("Union: %v", got)
		}
	}
	for x := range s.All() {
		s.Remove(x)
		s.Add(x + 10)
	}
	if got := s.List(); !slices.Equal(got, []int{10, 11, 13, 14}) {
		t.Errorf("changed meanwhile: %v", got)
	}
}

func TestUnion(t *testing.T) {
	for i, c := range []struct {
		l    []*set.Set[int]
		want []int
	}{
		{nil, nil}, {[]*set.Set[int]{nil, nil}, nil}, {[]*set.Set[int]{set.Of(1, 3), set.Of(2, 3)}, []int{1, 2, 3}}, {[]*set.Set[int]{set.Of(5), nil, set.Of(1), set.Of(5), set.Of[int]()}, []int{1, 5}},
	} {
		if got := told(t, set.Union(c.l...)); !slices.Equal(got, c.want) {
			t.Errorf("%d: %v", i, got)
		}
	}
	for x := range set.Union(set.Of(1, 2), set.Of(3)) {
		if x != 1 {
			t.Error("a loop may stop")
		}
		break
	}
}

func TestMeet(t *testing.T) {
	for i, c := range []struct {
		a, b *set.Set[int]
		want bool
	}{
		{set.Of(1, 2), set.Of(2, 3), true}, {set.Of(1, 2), set.Of(3), false}, {set.Of[int](), set.Of(1), false}, {nil, set.Of(1), false}, {nil, nil, false}, {set.Of(9), set.Of(1, 2, 3, 9), true},
	} {
		if set.Meet(c.a, c.b) != c.want || set.Meet(c.b, c.a) != c.want {
			t.Errorf("%d isn't %v", i, c.want)
		}
	}
}

func TestWithout(t *testing.T) {
	if got := told(t, set.Without(slices.Values([]int{3, 1, 3, 2}), 3)); !slices.Equal(got, []int{1, 2}) {
		t.Errorf("%v", got)
	}
	if got := told(t, set.Without(slices.Values([]int{2, 2, 1}), 5)); !slices.Equal(got, []int{2, 2, 1}) {
		t.Errorf("%v", got)
	}
	if got := told(t, set.Without(nil, 1)); len(got) != 0 {
		t.Errorf("%v", got)
	}
	n := 0
	for range set.Without(set.Of(1, 2, 3).All(), 2) {
		n++
		break
	}
	if n != 1 {
		t.Error("a loop may stop")
	}
}

func TestNilSet(t *testing.T) {
	var s *set.Set[int]
	if s.Add(1) != 0 || s.Remove(1) != 0 || s.Has(1) || s.Len() != 0 || len(s.List()) != 0 || len(told(t, s.All())) != 0 {
		t.Error("a nil set has something")
	}
}

func TestFloats(t *testing.T) {
	nan := math.NaN()
	s := set.Of(1, nan, nan, math.Inf(-1))
	if s.Len() != 3 || !s.Has(nan) || s.Add(nan) != 0 || s.Remove(nan, nan) != 1 || s.Has(nan) {
		t.Errorf("%v", s.List())
	}
}

func TestManyThings(t *testing.T) {
	s := set.Of[int]()
	has := map[int]bool{}
	x := 1
	for range 5000 {
		x = x * 1103515245 % 65521
		k := x % 200
		if x%3 == 0 {
			if (s.Remove(k) == 1) != has[k] {
				t.Fatalf("%d went", k)
			}
			delete(has, k)
		} else {
			if (s.Add(k) == 0) != has[k] {
				t.Fatalf("%d came", k)
			}
			has[k] = true
		}
		if s.Len() != len(has) || !slices.IsSorted(s.List()) {
			t.Fatal("they don't rise")
		}
	}
	for k := range 200 {
		if s.Has(k) != has[k] {
			t.Errorf("%d", k)
		}
	}
}

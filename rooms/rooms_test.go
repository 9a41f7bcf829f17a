package rooms_test

import (
	"iter"
	"slices"
	"strconv"
	"strings"
	"testing"

	"rollcall/api"
	"rollcall/config"
	"rollcall/room"
	"rollcall/rooms"
)

// made are rooms for at most so many, and so many of a client.
func made(most, joined int) *rooms.Rooms {
	c := config.Usual()
	c.MaxRooms, c.MaxJoined, c.MaxBans = most, joined, 1
	return rooms.New(c)
}

// names are the names of some rooms.
func names(seq iter.Seq[*room.Room]) string {
	var l []string
	for r := range seq {
		l = append(l, r.Name())
	}
	return strings.Join(l, " ")
}

// join puts a client on rooms, or the test ends.
func join(t *testing.T, r *rooms.Rooms, id int, names ...string) {
	t.Helper()
	for _, name := range names {
		if one, n := r.Join(id, name); one == nil || n != 0 {
			t.Fatalf("Join(%d, %q): %v, %d", id, name, one, n)
		}
	}
}

func TestJoin(t *testing.T) {
	r := made(2, 2)
	one, n := r.Join(1, "#A[")
	if one == nil || n != 0 || one.Name() != "#A[" || r.Len() != 1 || r.Count(1) != 1 {
		t.Fatalf("%v, %d", one, n)
	}
	if m, ok := one.Member(1); m != (api.Member{Id: 1, Op: true}) || !ok {
		t.Errorf("%v, %v", m, ok)
	}
	again, n := r.Join(2, "#a{")
	if again != one || n != 0 || one.Name() != "#A[" || one.Len() != 2 {
		t.Errorf("the same room: %v, %d", again, n)
	}
	if m, ok := one.Member(2); m != (api.Member{Id: 2}) || !ok {
		t.Errorf("%v, %v", m, ok)
	}
	if got, ok := r.Get("#a["); got != one || !ok {
		t.Errorf("Get: %v, %v", got, ok)
	}
	if got, ok := r.Get("#b"); got != nil || ok {
		t.Errorf("Get of none: %v, %v", got, ok)
	}
	if _, n := one.Change(api.Change{On: true, Letter: 'b', Arg: "x"}, 0); n != 0 {
		t.Errorf("a first ban: %d", n)
	}
	if _, n := one.Change(api.Change{On: true, Letter: 'b', Arg: "y"}, 0); n != 478 {
		t.Errorf("a second ban: %d", n)
	}
}

func TestTooMany(t *testing.T) {
	r := made(3, 2)
	join(t, r, 1, "#a", "#b")
	for _, name := range []string{"#c", "#d"} {
		if one, n := r.Join(1, name); one != nil || n != 405 || r.Len() != 2 || r.Count(1) != 2 {
			t.Errorf("one more of it: %v, %d", one, n)
		}
	}
	join(t, r, 1, "#A")
	join(t, r, 2, "#c")
	if one, n := r.Join(3, "#d"); one != nil || n != 405 || r.Len() != 3 || r.Count(3) != 0 || len(slices.Collect(r.Peers(3))) != 0 {
		t.Errorf("one more in all: %v, %d", one, n)
	}
	if one, n := r.Join(1, "#c"); one != nil || n != 405 || r.Common(1, 2) {
		t.Errorf("one more that is there: %v, %d", one, n)
	}
	join(t, r, 3, "#c")
	if !r.Part(1, "#b") {
		t.Error("it was there")
	}
	join(t, r, 3, "#d")
	join(t, r, 1, "#C")
}

func TestPartAndLeave(t *testing.T) {
	r := made(9, 9)
	join(t, r, 1, "#a", "#b", "#c")
	join(t, r, 2, "#B")
	if r.Part(1, "#x") || r.Part(2, "#a") || r.Part(3, "#a") {
		t.Error("who wasn't there")
	}
	if !r.Part(1, "#A") || r.Part(1, "#a") || r.Len() != 2 || r.Count(1) != 2 {
		t.Error("a room without members goes")
	}
	if _, ok := r.Get("#a"); ok {
		t.Error("#a is there")
	}
	if n := r.Leave(1); n != 2 || r.Count(1) != 0 || r.Len() != 1 || r.Leave(1) != 0 || r.Leave(9) != 0 {
		t.Errorf("Leave: %d", n)
	}
	one, _ := r.Get("#b")
	if m, ok := one.Member(1); ok || one.Len() != 1 {
		t.Errorf("%v", m)
	}
	join(t, r, 1, "#b")
	if m, _ := one.Member(1); m.Op {
		t.Error("it was there ahead of it")
	}
	r.Leave(2)
	r.Leave(1)
	fresh, _ := r.Join(5, "#B")
	if m, _ := fresh.Member(5); !m.Op || fresh.Name() != "#B" || fresh.Len() != 1 {
		t.Errorf("a room that comes again is a new one: %v", m)
	}
}

func TestOrder(t *testing.T) {
	r := made(20, 20)
	join(t, r, 1, "#b", "#[", "#A", "#a~", "#Z", "#0")
	join(t, r, 2, "#aa", "#z")
	if got := names(r.All()); got != "#0 #A #a~ #aa #b #Z #[" {
		t.Errorf("All: %s", got)
	}
	if got := names(r.Of(1)); got != "#0 #A #a~ #b #Z #[" {
		t.Errorf("Of: %s", got)
	}
	all, of := r.All(), r.Of(2)
	r.Leave(2)
	join(t, r, 2, "#new")
	for range 2 {
		if a, b := names(all), names(of); a != "#0 #A #a~ #aa #b #Z #[" || b != "#aa #Z" {
			t.Errorf("as they were: %s; %s", a, b)
		}
	}
	if names(r.Of(7)) != "" {
		t.Error("of nobody")
	}
	for range r.All() {
		break
	}
}

func TestPeersAndCommon(t *testing.T) {
	r := made(9, 9)
	join(t, r, 1, "#a", "#b")
	join(t, r, 2, "#B")
	join(t, r, 3, "#c")
	if got := slices.Collect(r.Peers(1)); !slices.Equal(got, []int{2}) {
		t.Errorf("%v", got)
	}
	if !r.Common(1, 2) || !r.Common(2, 1) || r.Common(1, 3) || !r.Common(1, 1) || r.Common(4, 4) || r.Common(4, 1) {
		t.Error("Common")
	}
	for _, id := range []int{9, -4, 5, 2} {
		join(t, r, id, "#a")
	}
	seq := r.Peers(1)
	r.Leave(9)
	for range 2 {
		if got := slices.Collect(seq); !slices.Equal(got, []int{-4, 2, 5, 9}) {
			t.Errorf("as they were: %v", got)
		}
	}
	if got := slices.Collect(r.Peers(3)); len(got) != 0 {
		t.Errorf("of somebody alone: %v", got)
	}
}

func TestNilRooms(t *testing.T) {
	var r *rooms.Rooms
	one, ok := r.Get("#a")
	joined, n := r.Join(1, "#a")
	if one != nil || ok || joined != nil || n != 405 || r.Part(1, "#a") || r.Leave(1) != 0 || r.Count(1) != 0 || r.Len() != 0 || r.Common(1, 1) {
		t.Error("nil rooms have something")
	}
	if r.All() == nil || r.Of(1) == nil || r.Peers(1) == nil {
		t.Fatal("a function is nil")
	}
	if names(r.All()) != "" || names(r.Of(1)) != "" || len(slices.Collect(r.Peers(1))) != 0 {
		t.Error("something is told")
	}
}

func TestOddConfigurations(t *testing.T) {
	for _, c := range []api.Config{{}, {MaxRooms: -1, MaxJoined: -1}, {MaxRooms: 5, MaxJoined: -5}, {MaxRooms: -5, MaxJoined: 5}, {MaxRooms: 1 << 62, MaxJoined: 1 << 62}} {
		r := rooms.New(c)
		r.Join(1, "#a")
		r.Part(1, "#a")
		r.Leave(1)
		names(r.All())
	}
}

func TestMostRooms(t *testing.T) {
	r := made(1000, 1000)
	for i := range 1000 {
		join(t, r, i%7, "#"+strconv.Itoa(i))
	}
	if _, n := r.Join(1, "#x"); n != 405 || r.Len() != 1000 {
		t.Errorf("%d rooms, %d", r.Len(), n)
	}
}

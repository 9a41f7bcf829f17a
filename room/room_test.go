package room_test

import (
	"slices"
	"strconv"
	"strings"
	"testing"

	"rollcall/api"
	"rollcall/room"
)

// on and off are changes.
func on(letter byte, arg string) api.Change  { return api.Change{On: true, Letter: letter, Arg: arg} }
func off(letter byte, arg string) api.Change { return api.Change{Letter: letter, Arg: arg} }

// expect makes a change, and checks what it answers and what the modes are then.
func expect(t *testing.T, r *room.Room, c api.Change, id int, made api.Change, code int, modes string) {
	t.Helper()
	got, n := r.Change(c, id)
	if got != made || n != code {
		t.Errorf("Change(%v): %v, %d, not %v, %d", c, got, n, made, code)
	}
	if got := strings.Join(r.Modes(true), " "); got != modes {
		t.Errorf("Change(%v): the modes are %q, not %q", c, got, modes)
	}
}

func TestNew(t *testing.T) {
	r := room.New("#a b", 5)
	if r.Name() != "#a b" || r.Len() != 0 || r.Topic() != "" || len(slices.Collect(r.Members())) != 0 || len(slices.Collect(r.Bans())) != 0 {
		t.Error("a new room has something")
	}
	for b := range 256 {
		if got := r.Flag(byte(b)); got != (b == 'n' || b == 't') {
			t.Errorf("Flag(%d) is %v", b, got)
		}
	}
}

func TestMembers(t *testing.T) {
	r := room.New("#a", 5)
	for _, id := range []int{3, -1, 7} {
		r.Add(id, id == 3)
	}
	r.Add(7, true)
	want := []api.Member{{Id: -1}, {Id: 3, Op: true}, {Id: 7}}
	seq := r.Members()
	if got := slices.Collect(seq); !slices.Equal(got, want) || r.Len() != 3 {
		t.Errorf("%v", got)
	}
	if m, ok := r.Member(3); m != want[1] || !ok {
		t.Errorf("%v, %v", m, ok)
	}
	if m, ok := r.Member(4); m != (api.Member{}) || ok {
		t.Errorf("of none: %v, %v", m, ok)
	}
	r.Change(on('v', ""), 7)
	if !r.Drop(3) || r.Drop(3) || r.Len() != 2 {
		t.Error("it goes once")
	}
	if got := slices.Collect(seq); !slices.Equal(got, want) {
		t.Errorf("as they were: %v", got)
	}
	for m := range r.Members() {
		r.Drop(m.Id)
	}
	if r.Len() != 0 {
		t.Error("all went")
	}
	for range r.Members() {
		t.Error("nobody is there")
	}
}

func TestTopic(t *testing.T) {
	r := room.New("#a", 5)
	r.SetTopic("a\r\nb\x00 " + strings.Repeat("x", 300))
	if got := r.Topic(); got != "ab "+strings.Repeat("x", 197) {
		t.Errorf("%q", got)
	}
	r.SetTopic("")
	if r.Topic() != "" {
		t.Error("it was taken away")
	}
}

func TestMayJoin(t *testing.T) {
	r := room.New("#a", 5)
	who := "ann!u@h"
	check := func(id int, key string, want int) {
		t.Helper()
		if got := r.MayJoin(id, who, key); got != want {
			t.Errorf("MayJoin(%d, %q) is %d, not %d", id, key, got, want)
		}
	}
	check(1, "", 0)
	r.Change(on('b', "ANN!*@*"), 0)
	check(1, "", 474)
	r.Invite(2)
	check(2, "", 0)
	r.Change(on('l', "1"), 0)
	check(1, "", 474)
	r.Add(9, true)
	check(1, "", 471)
	check(2, "", 471)
	r.Change(on('k', "Key"), 0)
	check(1, "key", 475)
	check(2, "", 475)
	check(1, "Key", 471)
	r.Change(on('i', ""), 0)
	check(1, "", 473)
	check(2, "", 475)
	r.Change(off('k', ""), 0)
	r.Change(off('l', ""), 0)
	check(2, "x", 0)
	r.Add(2, false)
	r.Drop(2)
	check(2, "", 473)
}

func TestWhoIsAMemberStaysInvited(t *testing.T) {
	r := room.New("#a", 5)
	r.Add(1, false)
	r.Invite(1)
	r.Add(1, true)
	r.Change(on('i', ""), 0)
	if m, _ := r.Member(1); m.Op {
		t.Error("it was made an operator")
	}
	if got := r.MayJoin(1, "a!b@c", ""); got != 0 {
		t.Errorf("it isn't invited any more: %d", got)
	}
}

func TestMaySpeak(t *testing.T) {
	for _, flags := range []string{"", "n", "m", "nm"} {
		for _, banned := range []bool{false, true} {
			r := room.New("#a", 5)
			r.Change(off('n', ""), 0)
			for i := range len(flags) {
				r.Change(on(flags[i], ""), 0)
			}
			if banned {
				r.Change(on('b', "u@h"), 0)
			}
			r.Add(1, true)
			r.Add(2, false)
			r.Add(3, false)
			r.Change(on('v', ""), 2)
			for id, want := range map[int]bool{1: true, 2: true, 3: !strings.Contains(flags, "m") && !banned, 4: flags == "" && !banned} {
				if got := r.MaySpeak(id, "ann!U@H"); got != want {
					t.Errorf("flags %q, banned %v, %d: %v", flags, banned, id, got)
				}
			}
		}
	}
}

func TestFlags(t *testing.T) {
	r := room.New("#a", 5)
	expect(t, r, on('i', "x"), 0, on('i', ""), 0, "+int")
	expect(t, r, on('i', ""), 0, api.Change{}, 0, "+int")
	expect(t, r, on('n', ""), 0, api.Change{}, 0, "+int")
	expect(t, r, on('s', ""), 0, on('s', ""), 0, "+inst")
	expect(t, r, on('m', ""), 0, on('m', ""), 0, "+imnst")
	expect(t, r, off('t', ""), 0, off('t', ""), 0, "+imns")
	expect(t, r, off('t', ""), 0, api.Change{}, 0, "+imns")
	expect(t, r, off('n', ""), 0, off('n', ""), 0, "+ims")
	expect(t, r, off('i', ""), 0, off('i', ""), 0, "+ms")
	expect(t, r, off('m', ""), 0, off('m', ""), 0, "+s")
	expect(t, r, off('s', ""), 0, off('s', ""), 0, "+")
	for b := range 256 {
		if !strings.Contains("imnstovklb", string([]byte{byte(b)})) {
			expect(t, r, on(byte(b), "x"), 0, api.Change{}, 472, "+")
		}
	}
}

func TestMarks(t *testing.T) {
	r := room.New("#a", 5)
	r.Add(1, false)
	expect(t, r, on('o', "Ann"), 1, on('o', "Ann"), 0, "+nt")
	expect(t, r, on('o', "Ann"), 1, api.Change{}, 0, "+nt")
	expect(t, r, on('v', ""), 1, on('v', ""), 0, "+nt")
	expect(t, r, off('v', "x"), 2, api.Change{}, 441, "+nt")
	if m, _ := r.Member(1); m != (api.Member{Id: 1, Op: true, Voice: true}) {
		t.Errorf("%v", m)
	}
	expect(t, r, off('o', "x"), 1, off('o', "x"), 0, "+nt")
	if m, _ := r.Member(1); m != (api.Member{Id: 1, Voice: true}) {
		t.Errorf("%v", m)
	}
}

func TestKey(t *testing.T) {
	r := room.New("#a", 5)
	expect(t, r, off('k', "x"), 0, api.Change{}, 0, "+nt")
	for _, key := range []string{"", "a b", "a,b", ":a", strings.Repeat("x", 24)} {
		expect(t, r, on('k', key), 0, api.Change{}, 475, "+nt")
	}
	expect(t, r, on('k', "x"), 0, on('k', "x"), 0, "+knt x")
	expect(t, r, on('k', "x"), 0, api.Change{}, 475, "+knt x")
	expect(t, r, on('l', "20"), 0, on('l', "20"), 0, "+klnt x 20")
	expect(t, r, off('k', "anything"), 0, off('k', "*"), 0, "+lnt 20")
}

func TestLimit(t *testing.T) {
	r := room.New("#a", 5)
	for _, arg := range []string{"", "0", "01", "10000", "-1", "+1", "1a", "a", " 1", "1 "} {
		expect(t, r, on('l', arg), 0, api.Change{}, 0, "+nt")
	}
	expect(t, r, off('l', ""), 0, api.Change{}, 0, "+nt")
	expect(t, r, on('l', "1"), 0, on('l', "1"), 0, "+lnt 1")
	expect(t, r, on('l', "1"), 0, api.Change{}, 0, "+lnt 1")
	expect(t, r, on('l', "x"), 0, api.Change{}, 0, "+lnt 1")
	expect(t, r, on('l', "9999"), 0, on('l', "9999"), 0, "+lnt 9999")
	expect(t, r, off('l', "7"), 0, off('l', ""), 0, "+nt")
}

func TestModes(t *testing.T) {
	r := room.New("#a", 5)
	check := func(all bool, want ...string) {
		t.Helper()
		if got := r.Modes(all); !slices.Equal(got, want) {
			t.Errorf("Modes(%v): %q, not %q", all, got, want)
		}
	}
	check(true, "+nt")
	check(false, "+nt")
	r.Change(on('l', "2"), 0)
	check(true, "+lnt", "2")
	check(false, "+lnt")
	r.Change(on('k', "x"), 0)
	check(true, "+klnt", "x", "2")
	check(false, "+klnt", "*")
	r.Change(off('l', ""), 0)
	check(true, "+knt", "x")
	check(false, "+knt", "*")
	for _, letter := range []byte("sim") {
		r.Change(on(letter, ""), 0)
	}
	r.Change(on('l', "9999"), 0)
	check(true, "+iklmnst", "x", "9999")
	check(false, "+iklmnst", "*")
	r.Change(off('k', ""), 0)
	check(false, "+ilmnst")
	for _, letter := range []byte("imnstl") {
		r.Change(off(letter, ""), 0)
	}
	check(true, "+")
	check(false, "+")
}

func TestModesAreNew(t *testing.T) {
	r := room.New("#a", 5)
	r.Change(on('k', "x"), 0)
	for _, all := range []bool{true, false} {
		l := r.Modes(all)
		want := slices.Clone(l)
		l[0], l[1] = "!", "!"
		if got := r.Modes(all); !slices.Equal(got, want) {
			t.Errorf("Modes(%v): %q, not %q", all, got, want)
		}
	}
}

func TestBans(t *testing.T) {
	r := room.New("#a", 3)
	bans := func(want ...string) {
		t.Helper()
		if got := slices.Collect(r.Bans()); !slices.Equal(got, want) {
			t.Errorf("the bans are %q, not %q", got, want)
		}
	}
	expect(t, r, on('b', ""), 0, api.Change{}, 0, "+nt")
	expect(t, r, off('b', ""), 0, api.Change{}, 0, "+nt")
	expect(t, r, on('b', "a b"), 0, api.Change{}, 0, "+nt")
	expect(t, r, on('b', strings.Repeat("x", 97)), 0, api.Change{}, 0, "+nt")
	bans()
	long := strings.Repeat("x", 96)
	expect(t, r, on('b', long), 0, on('b', long+"!*@*"), 0, "+nt")
	expect(t, r, off('b', long), 0, off('b', long+"!*@*"), 0, "+nt")
	expect(t, r, on('b', "Bob["), 0, on('b', "Bob[!*@*"), 0, "+nt")
	expect(t, r, on('b', "bOB{"), 0, api.Change{}, 0, "+nt")
	expect(t, r, on('b', "u\r@\n\x00h"), 0, on('b', "*!u@h"), 0, "+nt")
	expect(t, r, on('b', "a!b@c"), 0, on('b', "a!b@c"), 0, "+nt")
	bans("Bob[!*@*", "*!u@h", "a!b@c")
	expect(t, r, on('b', "d"), 0, api.Change{}, 478, "+nt")
	expect(t, r, on('b', "A!B@C"), 0, api.Change{}, 0, "+nt")
	seq := r.Bans()
	expect(t, r, off('b', "d"), 0, api.Change{}, 0, "+nt")
	expect(t, r, off('b', "U@H"), 0, off('b', "*!u@h"), 0, "+nt")
	expect(t, r, on('b', "d"), 0, on('b', "d!*@*"), 0, "+nt")
	bans("Bob[!*@*", "a!b@c", "d!*@*")
	if got := slices.Collect(seq); !slices.Equal(got, []string{"Bob[!*@*", "*!u@h", "a!b@c"}) {
		t.Errorf("as they were: %q", got)
	}
	none := room.New("#b", -1)
	expect(t, none, on('b', "x"), 0, api.Change{}, 478, "+nt")
}

func TestNilRoom(t *testing.T) {
	var r *room.Room
	r.Add(1, true)
	r.SetTopic("x")
	r.Invite(1)
	if m, ok := r.Member(1); m != (api.Member{}) || ok || r.Drop(1) || r.Name() != "" || r.Len() != 0 || r.Topic() != "" || r.Flag('n') || len(r.Modes(true)) != 0 || len(r.Modes(false)) != 0 || r.MaySpeak(1, "") {
		t.Error("a nil room has something")
	}
	if c, n := r.Change(on('i', ""), 1); c != (api.Change{}) || n != 403 || r.MayJoin(1, "", "") != 403 {
		t.Errorf("%v, %d", c, n)
	}
	if r.Members() == nil || r.Bans() == nil {
		t.Fatal("a function is nil")
	}
	if len(slices.Collect(r.Members())) != 0 || len(slices.Collect(r.Bans())) != 0 {
		t.Error("something is told")
	}
}

func TestManyMembers(t *testing.T) {
	r := room.New("#a", 5)
	for i := range 500 {
		r.Add(i*37%500, false)
	}
	last := -1
	for m := range r.Members() {
		if m.Id != last+1 {
			t.Fatal(strconv.Itoa(m.Id) + " doesn't rise")
		}
		last = m.Id
	}
	if last != 499 {
		t.Errorf("%d was last", last)
	}
}

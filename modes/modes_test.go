package modes_test

import (
	"slices"
	"strconv"
	"strings"
	"testing"

	"rollcall/api"
	"rollcall/modes"
)

// told is what Seq tells, as a text.
func told(row string) string {
	out := ""
	for letter, on := range modes.Seq(row) {
		out += strconv.Quote(string([]byte{letter})) + strconv.FormatBool(on) + " "
	}
	return out
}

func TestSeq(t *testing.T) {
	for row, want := range map[string]string{
		"": "", "+": "", "-": "", "+-": "", "ab": `"a"true "b"true `, "-a+b": `"a"false "b"true `, "a--b-+c": `"a"true "b"false "c"true `, "\xff-*": `"\xff"true "*"false `,
	} {
		if modes.Seq(row) == nil {
			t.Fatal("it is nil")
		}
		if got := told(row); got != want {
			t.Errorf("Seq(%q): %s, not %s", row, got, want)
		}
	}
	n := 0
	for range modes.Seq("a-b") {
		n++
		break
	}
	if n != 1 {
		t.Error("a loop may stop")
	}
}

func TestTakes(t *testing.T) {
	for b := range 256 {
		always := strings.IndexByte("ovbk", byte(b)) >= 0
		if got := modes.Takes(byte(b), true); got != (always || b == 'l') {
			t.Errorf("%d on: %v", b, got)
		}
		if got := modes.Takes(byte(b), false); got != always {
			t.Errorf("%d off: %v", b, got)
		}
	}
}

// on and off are changes.
func on(letter byte, arg string) api.Change  { return api.Change{On: true, Letter: letter, Arg: arg} }
func off(letter byte, arg string) api.Change { return api.Change{Letter: letter, Arg: arg} }

func TestParse(t *testing.T) {
	for i, c := range []struct {
		params []string
		want   []api.Change
	}{
		{nil, nil}, {[]string{""}, nil}, {[]string{"+-", "a"}, nil},
		{[]string{"+o-k+b", "ann", "key"}, []api.Change{on('o', "ann"), off('k', "key"), on('b', "")}},
		{[]string{"ovbk", "1", "2", "3", "4"}, []api.Change{on('o', "1"), on('v', "2"), on('b', "3"), on('k', "4")}},
		{[]string{"oovvbim", "1", "2", "3", "4", "5"}, []api.Change{on('o', "1"), on('o', "2"), on('v', "3"), on('v', "4"), on('i', ""), on('m', "")}},
		{[]string{"-l+l", "5"}, []api.Change{off('l', ""), on('l', "5")}}, {[]string{"l"}, nil}, {[]string{"ovk"}, nil}, {[]string{"-ok"}, nil},
		{[]string{"b"}, []api.Change{on('b', "")}}, {[]string{"-b"}, []api.Change{off('b', "")}}, {[]string{"b", ""}, []api.Change{on('b', "")}}, {[]string{"bbbbb"}, []api.Change{on('b', ""), on('b', ""), on('b', ""), on('b', "")}},
		{[]string{"ob-i", "x"}, []api.Change{on('o', "x"), on('b', ""), off('i', "")}}, {[]string{"oooobi"}, []api.Change{on('b', ""), on('i', "")}},
		{[]string{"bbbb-l+li", "1", "2", "3", "4", "5"}, []api.Change{on('b', "1"), on('b', "2"), on('b', "3"), on('b', "4"), off('l', ""), on('i', "")}},
		{[]string{"-x\xff", "a"}, []api.Change{off('x', ""), off(255, "")}}, {[]string{"o", "", "b"}, []api.Change{on('o', "")}}, {[]string{"o+", "-i"}, []api.Change{on('o', "-i")}},
	} {
		before := slices.Clone(c.params)
		if got := modes.Parse(c.params); !slices.Equal(got, c.want) || !slices.Equal(before, c.params) {
			t.Errorf("%d: %v, not %v", i, got, c.want)
		}
	}
}

func TestLists(t *testing.T) {
	for i, c := range []struct {
		c    api.Change
		want bool
	}{
		{on('b', ""), true}, {off('b', ""), true}, {on('b', "x"), false}, {on('i', ""), false}, {api.Change{}, false},
	} {
		if got := modes.Lists(c.c); got != c.want {
			t.Errorf("%d: %v", i, got)
		}
	}
}

func TestText(t *testing.T) {
	for i, c := range []struct {
		l    []api.Change
		want []string
	}{
		{nil, nil}, {[]api.Change{}, nil}, {[]api.Change{on('i', "x")}, []string{"+i"}}, {[]api.Change{off('i', "")}, []string{"-i"}},
		{[]api.Change{on('o', "ann"), off('k', "*"), off('l', "7"), on('l', "5"), on('b', "m")}, []string{"+o-kl+lb", "ann", "*", "5", "m"}},
		{[]api.Change{off('i', ""), off('m', ""), on('n', ""), on('b', "")}, []string{"-im+nb", ""}},
	} {
		if got := modes.Text(c.l); !slices.Equal(got, c.want) {
			t.Errorf("%d: %q, not %q", i, got, c.want)
		}
	}
}

func TestWrittenIsToldAgain(t *testing.T) {
	rows := []string{"+o-k+v", "-oovb+b", "i-m+l-l+nk", "++--i-+s", "b-b+b-b+b-b", "lllll", "x-y+z\xff", "-l-l-l"}
	for _, row := range rows {
		for n := range 7 {
			params := []string{row}
			for i := range n {
				params = append(params, "a"+strconv.Itoa(i))
			}
			l := modes.Parse(params)
			if slices.ContainsFunc(l, modes.Lists) {
				continue
			}
			if again := modes.Parse(modes.Text(l)); !slices.Equal(again, l) {
				t.Errorf("%q: %v came back as %v", params, l, again)
			}
		}
	}
}

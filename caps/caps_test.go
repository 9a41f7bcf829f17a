package caps_test

import (
	"strconv"
	"testing"

	"rollcall/api"
	"rollcall/caps"
)

func TestNumber(t *testing.T) {
	for name, want := range map[string]int{
		"away-notify": 1, "echo-message": 2, "multi-prefix": 4, "": 0, "Away-notify": 0, "away-notify ": 0, "-away-notify": 0, "sasl": 0,
	} {
		if got := caps.Number(name); got != want {
			t.Errorf("Number(%q) is %d", name, got)
		}
	}
}

func TestAll(t *testing.T) {
	for range 2 {
		out := ""
		for name, number := range caps.All() {
			out += name + strconv.Itoa(number) + " "
		}
		if out != "away-notify1 echo-message2 multi-prefix4 " {
			t.Errorf("%q", out)
		}
	}
	for name := range caps.All() {
		if name != "away-notify" {
			t.Error("a loop may stop")
		}
		break
	}
}

func TestText(t *testing.T) {
	for have, want := range map[int]string{
		0: "", 1: "away-notify", 2: "echo-message", 4: "multi-prefix", 5: "away-notify multi-prefix", 7: "away-notify echo-message multi-prefix",
		8: "", 11: "away-notify echo-message", -1: "away-notify echo-message multi-prefix", -8: "", -1 << 63: "",
	} {
		if got := caps.Text(have); got != want {
			t.Errorf("Text(%d) is %q", have, got)
		}
	}
}

func TestHas(t *testing.T) {
	for have := -9; have < 17; have++ {
		for one := -9; one < 17; one++ {
			want := (one == 1 || one == 2 || one == 4) && have&one != 0
			if got := caps.Has(have, one); got != want {
				t.Errorf("Has(%d, %d) is %v", have, one, got)
			}
		}
	}
}

func TestApply(t *testing.T) {
	for _, c := range []struct {
		have    int
		request string
		want    int
		ok      bool
	}{
		{2, "away-notify -echo-message", 1, true}, {0, "", 0, true}, {5, "   ", 5, true}, {0, "  multi-prefix  away-notify ", 5, true},
		{0, "away-notify -away-notify", 0, true}, {1, "-away-notify away-notify", 1, true}, {1, "-echo-message", 1, true},
		{3, "-away-notify x", 3, false}, {3, "-", 3, false}, {3, "--away-notify", 3, false}, {3, "-x", 3, false}, {3, "x -away-notify", 3, false},
		{3, "AWAY-NOTIFY", 3, false}, {3, "multi-prefix\t", 3, false}, {3, "multi-prefix\x00", 3, false}, {0, "- away-notify", 0, false},
		{8, "away-notify", 9, true}, {-1, "-multi-prefix", -5, true}, {-8, "echo-message", -6, true},
	} {
		got, ok := caps.Apply(c.have, c.request)
		if got != c.want || ok != c.ok {
			t.Errorf("Apply(%d, %q) is %d, %v", c.have, c.request, got, ok)
		}
		if again, ok := caps.Apply(got, c.request); again != got || ok != c.ok {
			t.Errorf("Apply(%d, %q) again is %d, %v", c.have, c.request, again, ok)
		}
	}
	if got, ok := caps.Apply(0, "away-notify echo-message multi-prefix"); got != api.CapAway+api.CapEcho+api.CapMulti || !ok {
		t.Errorf("all: %d, %v", got, ok)
	}
}

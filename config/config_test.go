package config_test

import (
	"slices"
	"strings"
	"testing"

	"rollcall/api"
	"rollcall/config"
)

// with is the usual configuration, changed.
func with(change func(*api.Config)) api.Config {
	c := config.Usual()
	change(&c)
	return c
}

func TestUsual(t *testing.T) {
	want := api.Config{Name: "irc.example", MaxConns: 100, MaxSend: 8192, MaxJoined: 10, MaxRooms: 100, MaxBans: 20, MaxWatch: 30, MaxMon: 30, MaxWas: 50, Ping: 60, Grace: 30, Reg: 20}
	if config.Usual() != want || config.Check(config.Usual()) != api.OK {
		t.Errorf("%v", config.Usual())
	}
}

func TestNumbers(t *testing.T) {
	for name, c := range map[string]struct {
		set         func(*api.Config, int)
		least, most int
	}{
		"MaxConns":  {func(c *api.Config, n int) { c.MaxConns = n }, 1, 1000},
		"MaxSend":   {func(c *api.Config, n int) { c.MaxSend = n }, 512, 65536},
		"MaxJoined": {func(c *api.Config, n int) { c.MaxJoined = n }, 1, 1000},
		"MaxRooms":  {func(c *api.Config, n int) { c.MaxRooms = n }, 1, 1000},
		"MaxBans":   {func(c *api.Config, n int) { c.MaxBans = n }, 1, 1000},
		"MaxWatch":  {func(c *api.Config, n int) { c.MaxWatch = n }, 1, 1000},
		"MaxMon":    {func(c *api.Config, n int) { c.MaxMon = n }, 1, 1000},
		"MaxWas":    {func(c *api.Config, n int) { c.MaxWas = n }, 0, 1000},
		"Ping":      {func(c *api.Config, n int) { c.Ping = n }, 1, 1000000},
		"Grace":     {func(c *api.Config, n int) { c.Grace = n }, 1, 1000000},
		"Reg":       {func(c *api.Config, n int) { c.Reg = n }, 1, 1000000},
	} {
		for _, n := range []int{-1 << 63, -1, 0, 1, c.least - 1, c.least, c.most, c.most + 1, 1<<63 - 1} {
			want := api.ErrRange
			if n >= c.least && n <= c.most {
				want = api.OK
			}
			if got := config.Check(with(func(x *api.Config) { c.set(x, n) })); got != want {
				t.Errorf("%s %d: %d, not %d", name, n, got, want)
			}
		}
	}
}

func TestTexts(t *testing.T) {
	long := strings.Repeat("x", 50)
	for i, c := range []struct {
		name, pass, operName, operPass string
		want                           api.Errno
	}{
		{"irc.x", "", "", "", api.OK}, {"irc", "", "", "", api.ErrForm}, {"", "", "", "", api.ErrForm}, {"1.x", "", "", "", api.ErrForm}, {"a.b:c", "", "", "", api.ErrForm},
		{"irc.x", long, long, long, api.OK}, {"irc.x", long + "x", "", "", api.ErrForm}, {"irc.x", "", long + "x", "p", api.ErrForm}, {"irc.x", "", "o", long + "x", api.ErrForm},
		{"irc.x", "a b", "", "", api.ErrForm}, {"irc.x", "", "a\x20", "p", api.ErrForm}, {"irc.x", "", "o", "\x7f", api.ErrForm}, {"irc.x", "!~", "!", "~", api.OK}, {"irc.x", "\xff", "", "", api.ErrForm},
		{"irc.x", ":a", "", "", api.ErrForm}, {"irc.x", "a:", "o", "p:", api.OK}, {"irc.x", "", ":o", "p", api.ErrForm}, {"irc.x", "", "o", ":p", api.ErrForm},
		{"irc.x", "", "o", "", api.ErrForm}, {"irc.x", "", "", "p", api.ErrForm},
	} {
		got := config.Check(with(func(x *api.Config) { x.Name, x.Pass, x.OperName, x.OperPass = c.name, c.pass, c.operName, c.operPass }))
		if got != c.want {
			t.Errorf("%d: %d, not %d", i, got, c.want)
		}
	}
	if got := config.Check(with(func(x *api.Config) { x.Name, x.Ping = "", 0 })); got != api.ErrForm {
		t.Errorf("the form comes first: %d", got)
	}
	if got := config.Check(api.Config{Name: "irc.x"}); got != api.ErrRange {
		t.Errorf("without numbers: %d", got)
	}
}

func TestSupport(t *testing.T) {
	want := []string{"CASEMAPPING=rfc1459", "CHANTYPES=#", "PREFIX=(ov)@+", "CHANMODES=b,k,l,imnst", "NICKLEN=16", "CHANNELLEN=50", "MODES=4", "MAXTARGETS=4", "TOPICLEN=200", "CHANLIMIT=#:10", "MAXLIST=b:20", "MONITOR=30", "WATCH=30"}
	seq := config.Support(config.Usual())
	for range 2 {
		if got := slices.Collect(seq); !slices.Equal(got, want) {
			t.Errorf("%q", got)
		}
	}
	odd := slices.Collect(config.Support(api.Config{MaxJoined: -1, MaxBans: 1<<63 - 1, MaxMon: 0, MaxWatch: -1 << 63}))
	if last := odd[9:]; !slices.Equal(last, []string{"CHANLIMIT=#:-1", "MAXLIST=b:9223372036854775807", "MONITOR=0", "WATCH=-9223372036854775808"}) {
		t.Errorf("%q", last)
	}
	for stop := 1; stop <= 13; stop++ {
		n := 0
		for range config.Support(config.Usual()) {
			if n++; n == stop {
				break
			}
		}
		if n != stop {
			t.Errorf("%d were told, not %d", n, stop)
		}
	}
}

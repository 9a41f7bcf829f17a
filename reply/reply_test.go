package reply_test

import (
	"slices"
	"strconv"
	"strings"
	"testing"

	"rollcall/message"
	"rollcall/reply"
)

// many are n parameters.
func many(n int) []string {
	return slices.Repeat([]string{"p"}, n)
}

func TestWho(t *testing.T) {
	if got := reply.Who("ann", "u", "h"); got != "ann!u@h" {
		t.Errorf("%q", got)
	}
	if got := reply.Who("", " ", "\n"); got != "! @\n" {
		t.Errorf("%q", got)
	}
}

func TestNumeric(t *testing.T) {
	for i, c := range []struct {
		server string
		code   int
		to     string
		params []string
		want   string
	}{
		{"irc.x", 1, "ann", []string{"Hi there"}, ":irc.x 001 ann :Hi there"}, {"irc.x", 99, "ann", nil, ":irc.x 099 ann"}, {"irc.x", 999, "", []string{"x"}, ":irc.x 999 * x"},
		{"irc.x", 5, "", nil, ":irc.x 005 *"}, {"", 5, "a b", []string{"", ":x", "y"}, "005 a-b * -x y"}, {"irc.x", 5, "a b", nil, ":irc.x 005 :a b"},
		{"irc.x", 5, "\n", []string{"x"}, ":irc.x 005 * x"}, {"irc.x", 5, "a", []string{""}, ":irc.x 005 a :"},
		{"irc.x", 0, "ann", nil, ""}, {"irc.x", 1000, "ann", nil, ""}, {"irc.x", -1, "ann", nil, ""}, {"irc.x", -1 << 63, "ann", nil, ""}, {"irc.x", 1<<63 - 1, "", nil, ""},
		{"irc.x", 5, "a", many(14), ":irc.x 005 a" + strings.Repeat(" p", 14)}, {"irc.x", 5, "a", many(15), ""}, {"irc.x", 5, "a", many(100), ""},
		{"irc.x", 5, "a", []string{strings.Repeat("x", 600)}, ":irc.x 005 a " + strings.Repeat("x", 497)},
	} {
		if got := reply.Numeric(c.server, c.code, c.to, c.params...); got != c.want {
			t.Errorf("%d: %q, not %q", i, got, c.want)
		}
	}
}

// wordsOf are the words of the chapter's table, in the order of its rows.
func wordsOf() map[int]string {
	rows := []struct{ codes, texts string }{
		{"305 306", "You are no longer marked as being away; You have been marked as being away"},
		{"315 318 323 366 368 369 607 733", "End of WHO list; End of WHOIS list; End of LIST; End of NAMES list; End of ban list; End of WHOWAS; End of WATCH list; End of MONITOR list"},
		{"381 422", "You are now an IRC operator; MOTD File is missing"},
		{"401 402 403 404 405 406", "No such nick; No such server; No such channel; Cannot send to channel; You have joined too many channels; There was no such nickname"},
		{"407 409 410 411 412 417", "Too many targets; No origin specified; Invalid CAP command; No recipient given; No text to send; Input line was too long"},
		{"421 431 432 433", "Unknown command; No nickname given; Erroneous nickname; Nickname is already in use"},
		{"441 442 443 451 461 462 464 468", "They aren't on that channel; You're not on that channel; is already on channel; You have not registered; Not enough parameters; You may not reregister; Password incorrect; Invalid username"},
		{"471 472 473 474 475 476 478", "Cannot join channel (+l); is unknown mode char to me; Cannot join channel (+i); Cannot join channel (+b); Cannot join channel (+k); Bad Channel Mask; Channel list is full"},
		{"481 482 491 501 502", "Permission Denied; You're not channel operator; No O-lines for your host; Unknown MODE flag; Cant change mode for other users"},
		{"512 734", "Maximum size for WATCH-list; Monitor list is full"},
	}
	all := map[int]string{}
	for _, row := range rows {
		texts := strings.Split(row.texts, "; ")
		for i, code := range strings.Fields(row.codes) {
			n, _ := strconv.Atoi(code)
			all[n] = texts[i]
		}
	}
	return all
}

func TestWord(t *testing.T) {
	want := wordsOf()
	for code := -5; code < 1500; code++ {
		if got := reply.Word(code); got != want[code] {
			t.Errorf("Word(%d) is %q, not %q", code, got, want[code])
		}
	}
	if reply.Word(-1<<63) != "" || reply.Word(1<<63-1) != "" {
		t.Error("words of no numeric")
	}
}

func TestTold(t *testing.T) {
	for i, c := range []struct {
		code   int
		to     string
		params []string
		want   string
	}{
		{401, "ann", []string{"bob"}, ":irc.x 401 ann bob :No such nick"}, {422, "", nil, ":irc.x 422 * :MOTD File is missing"}, {1, "ann", nil, ":irc.x 001 ann :"},
		{0, "ann", nil, ""}, {461, "ann", many(13), ":irc.x 461 ann" + strings.Repeat(" p", 13) + " :Not enough parameters"}, {461, "ann", many(14), ""},
		{401, "ann", []string{""}, ":irc.x 401 ann * :No such nick"},
	} {
		if got := reply.Told("irc.x", c.code, c.to, c.params...); got != c.want {
			t.Errorf("%d: %q, not %q", i, got, c.want)
		}
	}
}

// plainPack is P14.3, by trying out whether a line would be cut.
func plainPack(server string, code int, to string, head, words []string) []string {
	size := func(last string) int {
		n := len(server) + 6 // a colon, two blanks, three digits
		for _, p := range append([]string{to}, head...) {
			n += len(p) + 1
		}
		if n += len(last); strings.Contains(last, " ") || strings.HasPrefix(last, ":") || last == "" {
			n++
		}
		return n
	}
	var lines []string
	for len(words) > 0 {
		n := 1
		for n < len(words) && size(strings.Join(words[:n+1], " ")) <= 510 {
			n++
		}
		lines = append(lines, reply.Numeric(server, code, to, append(slices.Clone(head), strings.Join(words[:n], " "))...))
		words = words[n:]
	}
	return lines
}

func TestPackOfManyWords(t *testing.T) {
	for _, headSize := range []int{1, 3, 300, 480, 485, 486, 487, 488, 489, 490, 491, 492, 493, 494, 495, 496, 497, 498, 600} {
		head := []string{"=", strings.Repeat("h", headSize)}
		var words []string
		for i := range 120 {
			words = append(words, strings.Repeat("w", 1+i*i%37))
			if i%29 == 5 {
				words = append(words, strings.Repeat("l", 450+i))
			}
			if i%17 == 3 {
				words = append(words, ":c", ":"+strings.Repeat("c", 20+i))
			}
		}
		got, want := reply.Pack("irc.x", 353, "ann", head, slices.Values(words)), plainPack("irc.x", 353, "ann", head, words)
		if !slices.Equal(got, want) {
			t.Errorf("with a head of %d: %q, not %q", headSize, got, want)
		}
		for _, line := range got {
			if _, e := message.Parse(line); e != 0 {
				t.Errorf("%q: %d", line, e)
			}
		}
	}
}

func TestPack(t *testing.T) {
	for i, c := range []struct {
		code  int
		head  []string
		words []string
		want  []string
	}{
		{353, []string{"=", "#a"}, []string{"@ann"}, []string{":irc.x 353 ann = #a @ann"}}, {353, []string{"=", "#a"}, []string{"@ann", "bob"}, []string{":irc.x 353 ann = #a :@ann bob"}},
		{5, nil, nil, []string{":irc.x 005 ann :"}}, {5, nil, []string{"", "\r\n", " ", "\x00"}, []string{":irc.x 005 ann :"}}, {5, nil, []string{"a b", "", "c\r\n", " d"}, []string{":irc.x 005 ann :ab c d"}},
		{0, nil, []string{"a"}, nil}, {1000, nil, nil, nil}, {-1, nil, nil, nil}, {5, many(13), []string{"a"}, []string{":irc.x 005 ann" + strings.Repeat(" p", 13) + " a"}}, {5, many(14), []string{"a"}, nil}, {5, many(14), nil, nil},
		{5, nil, []string{strings.Repeat("x", 600), "y"}, []string{":irc.x 005 ann " + strings.Repeat("x", 495), ":irc.x 005 ann y"}},
		{5, nil, []string{"y", strings.Repeat("x", 495), "z"}, []string{":irc.x 005 ann y", ":irc.x 005 ann " + strings.Repeat("x", 495), ":irc.x 005 ann z"}},
	} {
		if got := reply.Pack("irc.x", c.code, "ann", c.head, slices.Values(c.words)); !slices.Equal(got, c.want) {
			t.Errorf("%d: %q, not %q", i, got, c.want)
		}
	}
	if got := reply.Pack("irc.x", 5, "", nil, nil); !slices.Equal(got, []string{":irc.x 005 * :"}) {
		t.Errorf("nil words: %q", got)
	}
}

func TestWhatIsHandedInStays(t *testing.T) {
	room := []string{"a", "b", "beyond"}
	params := room[:2]
	reply.Numeric("irc.x", 5, "ann", params...)
	reply.Told("irc.x", 401, "ann", params...)
	reply.Pack("irc.x", 5, "ann", params, slices.Values([]string{"x"}))
	if !slices.Equal(room, []string{"a", "b", "beyond"}) {
		t.Errorf("%q", room)
	}
}

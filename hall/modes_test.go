package hall_test

import (
	"slices"
	"strings"
	"testing"

	"rollcall/api"
)

func TestRoomModes(t *testing.T) {
	w := made(t, nil).join("ann", "bob", "cid")
	w.on("#A", 0, 1)
	w.modes("#a", on('k', "x"), on('l', "9"))
	w.say(2, "MODE #x")
	w.say(2, "MODE #a")
	w.expect(2, ":irc.x 403 cid #x :No such channel", ":irc.x 324 cid #A +klnt *")
	w.say(1, "MODE #a")
	w.expect(1, ":irc.x 324 bob #A +klnt x 9")
	w.be(2, func(p *api.Person) { p.Oper = true })
	w.say(2, "MODE #a")
	w.expect(2, ":irc.x 324 cid #A +klnt x 9")
	w.be(2, func(p *api.Person) { p.Oper = false })
	w.modes("#a", off('k', ""))
	w.say(2, "MODE #a")
	w.say(0, "MODE #a")
	w.expect(2, ":irc.x 324 cid #A +lnt")
	w.expect(0, ":irc.x 324 ann #A +lnt 9")
	w.modes("#a", off('l', ""))
	w.say(2, "MODE #a")
	w.expect(2, ":irc.x 324 cid #A +nt")
	w.say(2, "MODE #a i")
	w.expect(2, ":irc.x 482 cid #a :You're not channel operator")
}

func TestChangeRoomModes(t *testing.T) {
	w := made(t, func(c *api.Config) { c.MaxBans = 2 }).join("ann", "Bob", "cid", "dan")
	w.on("#A", 0, 1, 2)
	w.Connect(9, "h")
	w.Claim(9, "sue")
	w.say(0, "MODE #a +s-n+vvk bOB sue key")
	w.expect(0, ":irc.x 401 ann sue :No such nick", ":ann!u@h MODE #A +s-n+vk Bob key")
	w.expect(1, ":ann!u@h MODE #A +s-n+vk Bob key")
	w.say(0, "MODE #a +vok DAN DAN y")
	w.expect(0, ":irc.x 441 ann dan #a :They aren't on that channel", ":irc.x 441 ann dan #a :They aren't on that channel", ":irc.x 475 ann #a :Cannot join channel (+k)")
	w.say(0, "MODE #a xy:\xff")
	w.expect(0, ":irc.x 472 ann x :is unknown mode char to me", ":irc.x 472 ann y :is unknown mode char to me", ":irc.x 472 ann - :is unknown mode char to me", ":irc.x 472 ann \xff :is unknown mode char to me")
	w.say(0, "MODE #a bbb a b c")
	w.expect(0, ":irc.x 478 ann #a :Channel list is full", ":ann!u@h MODE #A +bb a!*@* b!*@*")
	w.say(0, "MODE #a b-b-k+i B B any")
	w.say(0, "MODE #a")
	w.expect(0, ":ann!u@h MODE #A -bk+i b!*@* *", ":irc.x 324 ann #A +ist")
}

func TestListsOfBans(t *testing.T) {
	w := made(t, nil).join("ann", "bob", "cid")
	w.on("#A", 0, 1)
	w.modes("#a", on('b', "x"), on('b', "y@z"))
	list := func(nick string) []string {
		return []string{":irc.x 367 " + nick + " #A x!*@*", ":irc.x 367 " + nick + " #A *!y@z", ":irc.x 368 " + nick + " #A :End of ban list"}
	}
	w.say(2, "MODE #a b")
	w.expect(2, list("cid")...)
	w.say(1, "MODE #a i-bm+b")
	w.expect(1, slices.Concat([]string{":irc.x 482 bob #a :You're not channel operator"}, list("bob"), list("bob"))...)
	w.say(0, "MODE #a -b+b x")
	w.expect(0, ":irc.x 367 ann #A *!y@z", ":irc.x 368 ann #A :End of ban list", ":ann!u@h MODE #A -b x!*@*")
	w.say(0, "MODE #a b :")
	w.expect(0, ":irc.x 367 ann #A *!y@z", ":irc.x 368 ann #A :End of ban list")
}

func TestNothingChanges(t *testing.T) {
	w := made(t, nil).join("ann", "bob")
	w.on("#a", 0, 1)
	for _, row := range []string{"+", "nt-i", "+o ann", "-l", "o", "l 0", "-k x", "-b x", ":"} {
		w.say(0, "MODE #a "+row)
		w.expect(0)
	}
	w.say(1, "MODE #a +imx-o+b ann y")
	w.expect(1, ":irc.x 482 bob #a :You're not channel operator")
	w.expect(0)
}

func TestOperatorWhenTheMessageCame(t *testing.T) {
	w := made(t, nil).join("ann", "bob")
	w.on("#a", 0, 1)
	w.say(0, "MODE #a -o+i-o+m ann bob")
	w.expect(1, ":ann!u@h MODE #a -o+im ann")
	w.say(1, "MODE #a +o bob")
	w.expect(1, ":irc.x 482 bob #a :You're not channel operator")
	w.quiet()
	w.say(0, "MODE #a i")
	w.expect(0, ":irc.x 482 ann #a :You're not channel operator")
}

func TestOwnModes(t *testing.T) {
	w := made(t, nil).join("ann", "bob")
	w.Connect(9, "h")
	w.Claim(9, "sue")
	w.say(0, "MODE sue")
	w.say(0, "MODE bob +i")
	w.say(0, "MODE #")
	w.say(0, "MODE :")
	w.expect(0, ":irc.x 401 ann sue :No such nick", ":irc.x 502 ann :Cant change mode for other users", ":irc.x 401 ann # :No such nick", ":irc.x 401 ann * :No such nick")
	w.say(0, "MODE ANN")
	w.say(0, "MODE ann +i")
	w.say(0, "MODE ann")
	w.say(0, "MODE ann i+o")
	w.expect(0, ":irc.x 221 ann +", ":ann!u@h MODE ann +i", ":irc.x 221 ann +i")
	w.be(0, func(p *api.Person) { p.Oper = true })
	w.say(0, "MODE ann")
	w.say(0, "MODE ann o-io-ox+i")
	w.expect(0, ":irc.x 221 ann +io", ":irc.x 501 ann :Unknown MODE flag", ":ann!u@h MODE ann -io+i")
	if p, _ := w.Person(0); p.Oper || !p.Hidden {
		t.Errorf("%v", p)
	}
	w.say(0, "MODE ann xyz")
	w.say(0, "MODE ann -i+i-i")
	w.say(0, "MODE ann -")
	w.expect(0, ":irc.x 501 ann :Unknown MODE flag", ":ann!u@h MODE ann -i+i-i")
}

func TestLongRows(t *testing.T) {
	w := made(t, nil).join("ann")
	w.on("#a", 0)
	w.say(0, "MODE #a "+strings.Repeat("+i-i", 120))
	want := ":ann!u@h MODE #a " + strings.Repeat("+i-i", 120)
	w.expect(0, want[:min(510, len(want))])
}

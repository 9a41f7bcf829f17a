package talk_test

import (
	"strings"
	"testing"

	"rollcall/api"
)

func TestSpeakWrongly(t *testing.T) {
	w := made(t, nil).join("ann", "bob", "cid")
	w.on("#a", 1)
	w.Connect(9, "h")
	w.Claim(9, "sue")
	w.Tick()
	for line, want := range map[string]string{
		"": "411 ann :No recipient given", " :": "411 ann :No recipient given", " :x": "412 ann :No text to send", " bob": "412 ann :No text to send", " bob :": "412 ann :No text to send",
		" #x hi": "403 ann #x :No such channel", " #A hi": "404 ann #A :Cannot send to channel", " sue hi": "401 ann sue :No such nick", " # hi": "401 ann # :No such nick", " ann!u@h x": "401 ann ann!u@h :No such nick",
	} {
		w.say(0, "PRIVMSG"+line)
		w.expect(0, ":irc.x "+want)
		w.say(0, "NOTICE"+line)
		w.expect(0)
	}
	w.expect(1)
	w.expect(9)
	if p, _ := w.Person(0); p.Spoke != 1 {
		t.Errorf("it spoke at %d", p.Spoke)
	}
}

func TestSpokeOfPrivmsgAlone(t *testing.T) {
	w := made(t, nil).join("ann")
	w.Tick()
	w.say(0, "NOTICE ann x")
	w.say(0, "PRIVMSG")
	w.say(0, "PRIVMSG ann")
	if p, _ := w.Person(0); p.Spoke != 0 {
		t.Errorf("it spoke at %d", p.Spoke)
	}
	w.say(0, "PRIVMSG nobody x")
	if p, _ := w.Person(0); p.Spoke != 1 {
		t.Errorf("it spoke at %d", p.Spoke)
	}
}

func TestSpeakToOne(t *testing.T) {
	w := made(t, nil).join("ann", "Bob")
	w.say(0, "PRIVMSG bOB hi")
	w.say(0, "NOTICE bob :hi there")
	w.expect(1, ":ann!u@h PRIVMSG Bob hi", ":ann!u@h NOTICE Bob :hi there")
	w.expect(0)
	w.say(0, "PRIVMSG bob :"+strings.Repeat("x", 300))
	w.expect(1, ":ann!u@h PRIVMSG Bob "+strings.Repeat("x", 200))
	p, _ := w.Person(1)
	p.Away = "gone out"
	w.SetPerson(p)
	w.say(0, "PRIVMSG bob hi")
	w.say(0, "NOTICE bob hi")
	w.expect(0, ":irc.x 301 ann Bob :gone out")
	w.caps(0, api.CapEcho)
	w.say(0, "PRIVMSG bob hi")
	w.say(0, "NOTICE bob hi")
	w.expect(0, ":irc.x 301 ann Bob :gone out", ":ann!u@h PRIVMSG Bob hi", ":ann!u@h NOTICE Bob hi")
	w.say(0, "PRIVMSG ann me")
	w.expect(0, ":ann!u@h PRIVMSG ann me", ":ann!u@h PRIVMSG ann me")
}

func TestSpeakOnAChannel(t *testing.T) {
	w := made(t, nil).join("ann", "bob", "cid", "dan")
	w.on("#A[", 0, 1, 2)
	w.say(0, "PRIVMSG #a{ :hi there")
	w.expect(0)
	w.expect(1, ":ann!u@h PRIVMSG #A[ :hi there")
	w.expect(2, ":ann!u@h PRIVMSG #A[ :hi there")
	w.say(3, "PRIVMSG #a[ x")
	w.expect(3, ":irc.x 404 dan #a[ :Cannot send to channel")
	r, _ := w.Rooms().Get("#a[")
	r.Change(api.Change{Letter: 'n'}, 0)
	w.say(3, "NOTICE #a[ x")
	w.expect(0, ":dan!u@h NOTICE #A[ x")
	r.Change(api.Change{On: true, Letter: 'b', Arg: "dan"}, 0)
	w.say(3, "PRIVMSG #a[ y")
	w.expect(3, ":irc.x 404 dan #a[ :Cannot send to channel")
	w.caps(0, api.CapEcho)
	w.say(0, "PRIVMSG #a[ z")
	w.expect(0, ":ann!u@h PRIVMSG #A[ z")
}

func TestTargets(t *testing.T) {
	w := made(t, nil).join("ann", "bob", "cid", "dan", "eve", "fay")
	w.on("#a", 0, 1)
	w.caps(0, api.CapEcho)
	w.caps(2, api.CapEcho)
	w.say(0, "PRIVMSG bob,#a,x,cid,dan,eve hi")
	w.expect(0, ":irc.x 407 ann dan :Too many targets", ":ann!u@h PRIVMSG bob hi", ":ann!u@h PRIVMSG #a hi", ":irc.x 401 ann x :No such nick", ":ann!u@h PRIVMSG cid hi")
	w.expect(1, ":ann!u@h PRIVMSG bob hi", ":ann!u@h PRIVMSG #a hi")
	w.expect(2, ":ann!u@h PRIVMSG cid hi")
	w.expect(3)
	w.say(0, "NOTICE x,bob,#x,cid,dan hi")
	w.expect(0, ":ann!u@h NOTICE bob hi", ":ann!u@h NOTICE cid hi")
	w.expect(3)
	w.Drain(1, 999)
	w.Drain(2, 999)
	w.say(0, "PRIVMSG bob,,bob,cid hi")
	w.expect(0, ":ann!u@h PRIVMSG bob hi", ":irc.x 401 ann * :No such nick", ":ann!u@h PRIVMSG bob hi", ":ann!u@h PRIVMSG cid hi")
	w.expect(1, ":ann!u@h PRIVMSG bob hi", ":ann!u@h PRIVMSG bob hi")
	w.Drain(2, 999)
	w.say(2, "PRIVMSG #a,#x hi")
	w.expect(2, ":irc.x 404 cid #a :Cannot send to channel", ":irc.x 403 cid #x :No such channel")
	w.say(0, "PRIVMSG ,,,,, hi")
	w.expect(0, ":irc.x 407 ann * :Too many targets", ":irc.x 401 ann * :No such nick", ":irc.x 401 ann * :No such nick", ":irc.x 401 ann * :No such nick", ":irc.x 401 ann * :No such nick")
}

package talk

import (
	"strings"

	"rollcall/api"
	"rollcall/caps"
	"rollcall/set"
	"rollcall/tell"
	"rollcall/valid"
)

// maxTargets is to how many one may speak at once.
const maxTargets = 4

// speak tells a text to others; what is wrong is told by wrong.
func (k *client) speak(wrong func(code int, params ...string)) {
	targets, text := strings.Split(k.param(0), ","), tell.Words(k.param(1))
	switch {
	case k.param(0) == "":
		wrong(411)
		return
	case text == "":
		wrong(412)
		return
	case len(targets) > maxTargets:
		wrong(407, targets[maxTargets])
		targets = targets[:maxTargets]
	}
	if k.private() {
		p := k.person()
		p.Spoke = k.Now()
		k.SetPerson(p)
	}
	for _, target := range targets {
		line := ""
		if valid.Channel(target) {
			line = k.speakOn(target, text, wrong)
		} else {
			line = k.speakTo(target, text, wrong)
		}
		if line != "" && caps.Has(k.Sign(k.id).Caps, api.CapEcho) {
			k.Tell(k.id, line)
		}
	}
}

// private tells whether it speaks by PRIVMSG, which is answered.
func (k *client) private() bool {
	return k.m.Command == "PRIVMSG"
}

// speakOn tells a text to a channel: the line, if that was done.
func (k *client) speakOn(name, text string, wrong func(int, ...string)) string {
	r, there := k.Rooms().Get(name)
	if !there {
		wrong(403, name)
		return ""
	}
	if !r.MaySpeak(k.id, k.who()) {
		wrong(404, name)
		return ""
	}
	line := k.line(k.m.Command, r.Name(), text)
	members := set.Of[int]()
	for m := range r.Members() {
		members.Add(m.Id)
	}
	k.Spread(set.Without(members.All(), k.id), line)
	return line
}

// speakTo tells a text to a named client: the line, if that was done.
func (k *client) speakTo(nick, text string, wrong func(int, ...string)) string {
	p, named := tell.Named(k.Core, nick)
	if !named {
		wrong(401, nick)
		return ""
	}
	line := k.line(k.m.Command, p.Nick, text)
	k.Tell(p.Id, line)
	if k.private() && p.Away != "" {
		tell.Numeric(k.Core, k.id, 301, p.Nick, p.Away)
	}
	return line
}

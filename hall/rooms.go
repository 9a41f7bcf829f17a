package hall

import (
	"slices"
	"strconv"
	"strings"

	"rollcall/api"
	"rollcall/caps"
	"rollcall/person"
	"rollcall/room"
	"rollcall/tell"
	"rollcall/valid"
)

// join makes it a member of rooms.
func (k *client) join() {
	keys := strings.Split(k.param(1), ",")
names:
	for i, name := range strings.Split(k.param(0), ",") {
		if !valid.Channel(name) {
			k.told(403, name)
			continue names
		}
		if r, there := k.Rooms().Get(name); there {
			if _, member := r.Member(k.Id); member {
				continue names
			}
			if code := r.MayJoin(k.Id, person.Who(k.Person), at(keys, i)); code != 0 {
				k.told(code, r.Name())
				continue names
			}
		}
		r, code := k.Rooms().Join(k.Id, name)
		if code != 0 {
			k.told(code, name)
			continue names
		}
		k.tellJoined(r)
	}
}

// at is the text at a place; empty, if there is none.
func at(l []string, i int) string {
	if i < len(l) {
		return l[i]
	}
	return ""
}

// tellJoined tells that it is a member of a room now.
func (k *client) tellJoined(r *room.Room) {
	k.spread(r, k.line("JOIN", r.Name()))
	if k.Away != "" {
		line := k.line("AWAY", k.Away)
		for m := range r.Members() {
			if m.Id != k.Id && caps.Has(k.Sign(m.Id).Caps, api.CapAway) {
				k.Tell(m.Id, line)
			}
		}
	}
	if r.Topic() != "" {
		k.numeric(332, r.Name(), r.Topic())
	}
	k.tellNames(r)
}

// part takes it from rooms.
func (k *client) part() {
	var words []string
	if k.has(2) {
		words = append(words, tell.Words(k.param(1)))
	}
names:
	for name := range strings.SplitSeq(k.param(0), ",") {
		r, _ := k.memberOf(name)
		if r == nil {
			continue names
		}
		k.spread(r, k.line("PART", slices.Concat([]string{r.Name()}, words)...))
		k.Rooms().Part(k.Id, name)
	}
}

// memberOf is the room of a name, and it as its member; if it is none, that is told, and there is no room.
func (k *client) memberOf(name string) (*room.Room, api.Member) {
	r, there := k.Rooms().Get(name)
	if !there {
		k.told(403, name)
		return nil, api.Member{}
	}
	m, member := r.Member(k.Id)
	if !member {
		k.told(442, name)
		return nil, api.Member{}
	}
	return r, m
}

// kick takes another one from a room.
func (k *client) kick() {
	name, nick := k.param(0), k.param(1)
	r, m := k.memberOf(name)
	if r == nil {
		return
	}
	if !m.Op {
		k.told(482, name)
		return
	}
	target, named := tell.Named(k.Core, nick)
	if !named {
		k.told(401, nick)
		return
	}
	if _, member := r.Member(target.Id); !member {
		k.told(441, nick, name)
		return
	}
	words := k.Nick
	if k.has(3) {
		words = tell.Words(k.param(2))
	}
	k.spread(r, k.line("KICK", r.Name(), target.Nick, words))
	k.Rooms().Part(target.Id, name)
}

// topic tells the topic of a room, or sets it.
func (k *client) topic() {
	r, m := k.memberOf(k.param(0))
	switch {
	case r == nil:
	case !k.has(2) && r.Topic() == "":
		k.numeric(331, r.Name(), "No topic is set")
	case !k.has(2):
		k.numeric(332, r.Name(), r.Topic())
	case r.Flag('t') && !m.Op:
		k.told(482, k.param(0))
	default:
		r.SetTopic(k.param(1))
		k.spread(r, k.line("TOPIC", r.Name(), r.Topic()))
	}
}

// names tells who is on some rooms.
func (k *client) names() {
	if !k.has(1) {
		k.told(366, "*")
		return
	}
names:
	for name := range strings.SplitSeq(k.param(0), ",") {
		r, there := k.Rooms().Get(name)
		if !there || !tell.MaySee(k.Core, k.Id, r) {
			k.told(366, name)
			continue names
		}
		k.tellNames(r)
	}
}

// list tells which rooms there are.
func (k *client) list() {
	for r := range k.listed() {
		if tell.MaySee(k.Core, k.Id, r) {
			k.numeric(322, r.Name(), strconv.Itoa(r.Len()), r.Topic())
		}
	}
	k.told(323)
}

// listed goes through the rooms that LIST asks for.
func (k *client) listed() func(func(*room.Room) bool) {
	if !k.has(1) {
		return k.Rooms().All()
	}
	var l []*room.Room
	for name := range strings.SplitSeq(k.param(0), ",") {
		if r, there := k.Rooms().Get(name); there {
			l = append(l, r)
		}
	}
	return slices.Values(l)
}

// invite invites another one to a room.
func (k *client) invite() {
	nick, name := k.param(0), k.param(1)
	target, named := tell.Named(k.Core, nick)
	if !named {
		k.told(401, nick)
		return
	}
	r, m := k.memberOf(name)
	if r == nil {
		return
	}
	if _, member := r.Member(target.Id); member {
		k.told(443, nick, name)
		return
	}
	if r.Flag('i') && !m.Op {
		k.told(482, name)
		return
	}
	r.Invite(target.Id)
	k.numeric(341, target.Nick, r.Name())
	k.Tell(target.Id, k.line("INVITE", target.Nick, r.Name()))
}

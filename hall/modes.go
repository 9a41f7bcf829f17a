package hall

import (
	"slices"

	"rollcall/api"
	"rollcall/modes"
	"rollcall/room"
	"rollcall/tell"
	"rollcall/valid"
)

// mode tells or changes the modes of a room, or its own.
func (k *client) mode() {
	if valid.Channel(k.param(0)) {
		k.roomMode()
	} else {
		k.ownMode()
	}
}

// roomMode tells or changes the modes of a room.
func (k *client) roomMode() {
	name := k.param(0)
	r, there := k.Rooms().Get(name)
	if !there {
		k.told(403, name)
		return
	}
	m, member := r.Member(k.Id)
	if !k.has(2) {
		k.numeric(324, slices.Concat([]string{r.Name()}, r.Modes(member || k.Oper))...)
		return
	}
	var made []api.Change
	refused := false
changes:
	for _, c := range modes.Parse(k.m.Params[1:]) {
		switch {
		case modes.Lists(c):
			k.tellBans(r)
			continue changes
		case !m.Op && !refused:
			k.told(482, name)
			refused = true
			continue changes
		case !m.Op:
			continue changes
		}
		if done := k.change(r, c); done != (api.Change{}) {
			made = append(made, done)
		}
	}
	if len(made) > 0 {
		k.spread(r, k.line("MODE", slices.Concat([]string{r.Name()}, modes.Text(made))...))
	}
}

// tellBans tells the bans of a room.
func (k *client) tellBans(r *room.Room) {
	for ban := range r.Bans() {
		k.numeric(367, r.Name(), ban)
	}
	k.told(368, r.Name())
}

// change makes a change of a room's modes: as it was made; none, if nothing changed.
func (k *client) change(r *room.Room, c api.Change) api.Change {
	var target api.Person
	if c.Letter == 'o' || c.Letter == 'v' {
		var named bool
		if target, named = tell.Named(k.Core, c.Arg); !named {
			k.told(401, c.Arg)
			return api.Change{}
		}
		c.Arg = target.Nick
	}
	done, code := r.Change(c, target.Id)
	switch code {
	case 0:
	case 441:
		k.told(code, c.Arg, k.param(0))
	case 472:
		k.told(code, string([]byte{c.Letter}))
	default:
		k.told(code, k.param(0))
	}
	return done
}

// ownMode tells or changes its own modes.
func (k *client) ownMode() {
	target, named := tell.Named(k.Core, k.param(0))
	switch {
	case !named:
		k.told(401, k.param(0))
	case target != k.Person:
		k.told(502)
	case !k.has(2):
		k.numeric(221, ownModes(target))
	default:
		k.changeOwn()
	}
}

// ownModes are somebody's modes.
func ownModes(p api.Person) string {
	row := "+"
	if p.Hidden {
		row += "i"
	}
	if p.Oper {
		row += "o"
	}
	return row
}

// changeOwn changes its own modes.
func (k *client) changeOwn() {
	p, unknown := k.Person, false
	var made []api.Change
	for letter, on := range modes.Seq(k.param(1)) {
		before := p
		switch letter {
		case 'i':
			p.Hidden = on
		case 'o':
			p.Oper = p.Oper && on
		default:
			unknown = true
		}
		if p != before {
			made = append(made, api.Change{On: on, Letter: letter})
		}
	}
	k.SetPerson(p)
	if unknown {
		k.told(501)
	}
	if len(made) > 0 {
		k.Tell(k.Id, k.line("MODE", p.Nick, modes.Text(made)[0]))
	}
}

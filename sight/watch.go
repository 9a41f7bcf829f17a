package sight

import (
	"strconv"
	"strings"

	"rollcall/api"
	"rollcall/person"
	"rollcall/tell"
	"rollcall/wish"
)

// monitor does what MONITOR asks for.
func (k *client) monitor() {
	op, names := wish.Monitor(k.m.Params)
	list := k.Monitor()
	switch op {
	case '+':
		k.monitorMore(names)
	case '-':
		for _, name := range names {
			list.Remove(k.me.Id, name)
		}
	case 'C':
		list.Clear(k.me.Id)
	case 'L':
		for name := range list.Of(k.me.Id) {
			k.numeric(732, name)
		}
		k.told(733)
	case 'S':
		for name := range list.Of(k.me.Id) {
			k.monitorState(name)
		}
	default:
		k.told(461, "MONITOR")
	}
}

// monitorMore puts names on its MONITOR list.
func (k *client) monitorMore(names []string) {
names:
	for i, name := range names {
		switch k.Monitor().Add(k.me.Id, name) {
		case api.OK:
			k.monitorState(name)
		case api.ErrFull:
			k.told(734, strconv.Itoa(k.Config().MaxMon), strings.Join(names[i:], ","))
			break names
		}
	}
}

// monitorState tells the state of a nickname, as MONITOR does.
func (k *client) monitorState(name string) {
	if p, named := tell.Named(k.Core, name); named {
		k.numeric(730, person.Who(p))
	} else {
		k.numeric(731, name)
	}
}

// watch does what WATCH asks for.
func (k *client) watch() {
	list := k.Watch()
wishes:
	for _, w := range wish.Watch(k.m.Params) {
		switch w.Op {
		case '+':
			k.watchMore(w.Name)
			continue wishes
		case '-':
			if list.Remove(k.me.Id, w.Name) {
				k.numeric(602, w.Name, "*", "*", "0", "stopped watching")
			}
			continue wishes
		case 'C':
			list.Clear(k.me.Id)
			continue wishes
		case 'L':
			for name := range list.Of(k.me.Id) {
				k.watchState(name)
			}
		case 'S':
			k.watchCounts()
		}
		k.told(607)
	}
}

// watchMore puts a name on its WATCH list.
func (k *client) watchMore(name string) {
	switch k.Watch().Add(k.me.Id, name) {
	case api.OK:
		k.watchState(name)
	case api.ErrFull:
		k.told(512, strconv.Itoa(k.Config().MaxWatch))
	}
}

// watchState tells the state of a nickname, as WATCH does.
func (k *client) watchState(name string) {
	if p, named := tell.Named(k.Core, name); named {
		k.numeric(604, p.Nick, p.User, p.Host, strconv.Itoa(p.Signon), "is online")
	} else {
		k.numeric(605, name, "*", "*", "0", "is offline")
	}
}

// watchCounts tells how many names are on its WATCH list, and on how many lists it is.
func (k *client) watchCounts() {
	on := 0
	for range k.Watch().By(k.me.Nick) {
		on++
	}
	has := k.Watch().Count(k.me.Id)
	k.numeric(603, "You have "+strconv.Itoa(has)+" and are on "+strconv.Itoa(on)+" WATCH entries")
}

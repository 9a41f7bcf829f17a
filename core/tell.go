package core

import (
	"iter"
	"strconv"

	"rollcall/api"
	"rollcall/person"
	"rollcall/reply"
	"rollcall/wish"
)

// Tell tells lines to a connection.
func (c *Core) Tell(id int, lines ...string) {
	k := c.live(id)
	if k == nil {
		return
	}
	for _, line := range lines {
		if k.queue.Over() {
			return
		}
		k.queue.Push(line)
		if k.queue.Over() {
			c.dying = append(c.dying, id)
		}
	}
}

// Spread tells a line to some.
func (c *Core) Spread(ids iter.Seq[int], line string) {
	if c == nil || ids == nil {
		return
	}
	for id := range ids {
		c.Tell(id, line)
	}
}

// tellHeld makes known that a nickname is held by somebody.
func (c *Core) tellHeld(p api.Person) {
	c.tellWatchers(c.monitor, p.Nick, 730, person.Who(p))
	c.tellWatchers(c.watch, p.Nick, 600, p.Nick, p.User, p.Host, strconv.Itoa(p.Signon), "logged online")
}

// tellFree makes known that a nickname isn't held any more by who held it.
func (c *Core) tellFree(p api.Person) {
	c.tellWatchers(c.monitor, p.Nick, 731, p.Nick)
	c.tellWatchers(c.watch, p.Nick, 601, p.Nick, p.User, p.Host, strconv.Itoa(c.now), "logged offline")
}

// tellWatchers tells a numeric to those on whose lists a nickname is.
func (c *Core) tellWatchers(lists *wish.Lists, nick string, code int, params ...string) {
	for id := range lists.By(nick) {
		c.Tell(id, reply.Numeric(c.config.Name, code, c.Sign(id).Nick, params...))
	}
}

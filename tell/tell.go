// Package tell is what the commands of layers 24 to 26 have in common: how a client is told something, who is meant by a nickname, and which rooms may be seen.
package tell

import (
	"rollcall/api"
	"rollcall/core"
	"rollcall/reply"
	"rollcall/room"
	"rollcall/valid"
)

// maxWords is how many bytes the words of a text have.
const maxWords = 200

// Words are a text's words.
func Words(s string) string {
	return valid.Clean(s, maxWords)
}

// Numeric tells a numeric to a connection.
func Numeric(c *core.Core, id, code int, params ...string) {
	c.Tell(id, reply.Numeric(c.Config().Name, code, c.Sign(id).Nick, params...))
}

// Told tells a numeric with its words to a connection.
func Told(c *core.Core, id, code int, params ...string) {
	c.Tell(id, reply.Told(c.Config().Name, code, c.Sign(id).Nick, params...))
}

// Named is the named client: the holder of a nickname, if it is registered.
func Named(c *core.Core, nick string) (api.Person, bool) {
	id, held := c.Holder(nick)
	if !held {
		return api.Person{}, false
	}
	return c.Person(id)
}

// MaySee tells whether somebody may see a room.
func MaySee(c *core.Core, id int, r *room.Room) bool {
	_, member := r.Member(id)
	p, _ := c.Person(id)
	return member || p.Oper || !r.Flag('s')
}

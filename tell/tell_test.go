package tell_test

import (
	"strings"
	"testing"

	"rollcall/api"
	"rollcall/config"
	"rollcall/core"
	"rollcall/tell"
)

func TestWords(t *testing.T) {
	if got := tell.Words("a\r\nb\x00 c"); got != "ab c" {
		t.Errorf("%q", got)
	}
	if got := tell.Words(strings.Repeat("x", 250)); len(got) != 200 {
		t.Errorf("%d bytes", len(got))
	}
}

func TestTellingAndNaming(t *testing.T) {
	c, _ := core.New(config.Usual())
	c.Connect(1, "h")
	tell.Told(c, 1, 451)
	tell.Numeric(c, 1, 5, "x")
	c.Claim(1, "ann")
	if _, named := tell.Named(c, "ann"); named {
		t.Error("it isn't registered")
	}
	c.SetSign(1, api.Sign{User: "u"})
	c.Register(1)
	tell.Told(c, 1, 401, "bob")
	if got := string(c.Drain(1, 999)); got != ":irc.example 451 * :You have not registered\r\n:irc.example 005 * x\r\n:irc.example 401 ann bob :No such nick\r\n" {
		t.Errorf("%q", got)
	}
	if p, named := tell.Named(c, "ANN"); !named || p.Id != 1 {
		t.Errorf("%v, %v", p, named)
	}
	if p, named := tell.Named(c, "bob"); named || p != (api.Person{}) {
		t.Errorf("%v, %v", p, named)
	}
}

func TestMaySee(t *testing.T) {
	c, _ := core.New(config.Usual())
	for id, nick := range []string{"ann", "bob"} {
		c.Connect(id, "h")
		c.SetSign(id, api.Sign{User: "u"})
		c.Claim(id, nick)
		c.Register(id)
	}
	r, _ := c.Rooms().Join(0, "#a")
	if !tell.MaySee(c, 0, r) || !tell.MaySee(c, 1, r) {
		t.Error("it isn't secret")
	}
	r.Change(api.Change{On: true, Letter: 's'}, 0)
	if !tell.MaySee(c, 0, r) || tell.MaySee(c, 1, r) {
		t.Error("it is secret")
	}
	c.SetPerson(api.Person{Id: 1, Oper: true})
	if !tell.MaySee(c, 1, r) {
		t.Error("an operator sees all")
	}
}

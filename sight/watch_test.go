package sight_test

import (
	"testing"

	"rollcall/api"
)

func TestMonitorExample(t *testing.T) {
	w := made(t, nil).join("cid", "ann")
	w.say(0, "MONITOR + ann,bob")
	w.expect(0, ":irc.x 730 cid ann!u@h", ":irc.x 731 cid bob")
	w.Claim(1, "x")
	w.expect(0, ":irc.x 731 cid ann")
}

func TestMonitor(t *testing.T) {
	w := made(t, func(c *api.Config) { c.MaxMon = 3 }).join("ann", "Bob")
	w.Connect(9, "h")
	w.Claim(9, "sue")
	for _, line := range []string{"MONITOR", "MONITOR x", "MONITOR :", "MONITOR +bob"} {
		w.say(0, line)
		w.expect(0, ":irc.x 461 ann MONITOR :Not enough parameters")
	}
	w.say(0, "MONITOR +")
	w.say(0, "MONITOR + 1x,,")
	w.expect(0)
	w.say(0, "MONITOR + sue,bOB,SUE,ann")
	w.expect(0, ":irc.x 731 ann sue", ":irc.x 730 ann Bob!u@h", ":irc.x 730 ann ann!u@h")
	w.say(0, "MONITOR + Bob,cid,1,sue,dan")
	w.expect(0, ":irc.x 734 ann 3 cid,sue,dan :Monitor list is full")
	w.say(0, "MONITOR l")
	w.expect(0, ":irc.x 732 ann ann", ":irc.x 732 ann bOB", ":irc.x 732 ann sue", ":irc.x 733 ann :End of MONITOR list")
	w.say(0, "MONITOR s")
	w.expect(0, ":irc.x 730 ann ann!u@h", ":irc.x 730 ann Bob!u@h", ":irc.x 731 ann sue")
	w.say(0, "MONITOR - BOB,x,ann")
	w.say(0, "MONITOR -")
	w.expect(0)
	w.say(0, "MONITOR L x")
	w.expect(0, ":irc.x 732 ann sue", ":irc.x 733 ann :End of MONITOR list")
	w.say(0, "MONITOR c")
	w.say(0, "MONITOR S")
	w.say(0, "MONITOR L")
	w.expect(0, ":irc.x 733 ann :End of MONITOR list")
	w.expect(1)
}

func TestWatch(t *testing.T) {
	w := made(t, func(c *api.Config) { c.MaxWatch = 2 }).join("ann", "Bob")
	w.Tick()
	w.Connect(2, "h.x")
	w.SetSign(2, api.Sign{User: "c"})
	w.Claim(2, "cid")
	w.Register(2)
	w.Connect(9, "h")
	w.Claim(9, "sue")
	w.say(0, "WATCH")
	w.expect(0, ":irc.x 607 ann :End of WATCH list")
	w.say(0, "WATCH +CID +sue +Cid +bob x -dan")
	w.expect(0, ":irc.x 604 ann cid c h.x 1 :is online", ":irc.x 605 ann sue * * 0 :is offline", ":irc.x 512 ann 2 :Maximum size for WATCH-list")
	w.say(0, "WATCH l")
	w.expect(0, ":irc.x 604 ann cid c h.x 1 :is online", ":irc.x 605 ann sue * * 0 :is offline", ":irc.x 607 ann :End of WATCH list")
	w.say(0, "WATCH -Sue -sue +bob +x")
	w.expect(0, ":irc.x 602 ann Sue * * 0 :stopped watching", ":irc.x 604 ann Bob u h 0 :is online", ":irc.x 512 ann 2 :Maximum size for WATCH-list")
	w.say(1, "WATCH +ANN +bob s")
	w.expect(1, ":irc.x 604 Bob ann u h 0 :is online", ":irc.x 604 Bob Bob u h 0 :is online", ":irc.x 603 Bob :You have 2 and are on 2 WATCH entries", ":irc.x 607 Bob :End of WATCH list")
	w.say(0, "WATCH C s L x")
	w.expect(0, ":irc.x 603 ann :You have 0 and are on 1 WATCH entries", ":irc.x 607 ann :End of WATCH list", ":irc.x 607 ann :End of WATCH list")
	w.say(0, "WATCH x +1 :+a -b")
	w.expect(0)
}

func TestStatesAreToldOnceAndThenChanges(t *testing.T) {
	w := made(t, nil).join("ann", "bob")
	w.say(0, "WATCH +cid +bob")
	w.say(0, "MONITOR + cid,bob")
	w.quiet()
	w.Connect(2, "h")
	w.SetSign(2, api.Sign{User: "u"})
	w.Claim(2, "cid")
	w.expect(0)
	w.Register(2)
	w.expect(0, ":irc.x 730 ann cid!u@h", ":irc.x 600 ann cid u h 0 :logged online")
	w.Claim(2, "CID")
	w.expect(0)
	w.Claim(2, "dan")
	w.Claim(1, "cid")
	w.expect(0, ":irc.x 731 ann CID", ":irc.x 601 ann CID u h 0 :logged offline", ":irc.x 731 ann bob", ":irc.x 601 ann bob u h 0 :logged offline", ":irc.x 730 ann cid!u@h", ":irc.x 600 ann cid u h 0 :logged online")
	w.Leave(1, "x")
	w.expect(0, ":irc.x 731 ann cid", ":irc.x 601 ann cid u h 0 :logged offline")
}

package ledger

import (
	"testing"

	"ledger/api"
)

func TestP9Refused(t *testing.T) {
	c := New()
	checkProduce(t, c, 1, 1, 1, 0, false)
	crash(t, c, 1)
	crash(t, c, 4)
	before := copyOf(c)
	for _, node := range []int{least, -1, api.Nodes, most} {
		if e := c.Crash(node); e != api.ErrNode {
			t.Errorf("Crash(%d) = %d", node, e)
		}
		if e := c.Restart(node); e != api.ErrNode {
			t.Errorf("Restart(%d) = %d", node, e)
		}
	}
	for _, node := range []int{1, 4} {
		if e := c.Crash(node); e != api.ErrDown {
			t.Errorf("Crash(%d) = %d", node, e)
		}
	}
	for _, node := range []int{0, 2, 3} {
		if e := c.Restart(node); e != api.ErrUp {
			t.Errorf("Restart(%d) = %d", node, e)
		}
	}
	unchanged(t, c, before)
}

// Whatever a node was about: it is down and Idle, then up and Idle; the log and the two epochs stay,
// what it knew of others does not, and no other node and no message is touched.
func TestP9WhatOutlastsACrash(t *testing.T) {
	for node := range api.Nodes {
		for _, role := range []int{api.Idle, api.Reading, api.Sending, api.Serving} {
			c := New()
			checkProduce(t, c, 1, 1, 1, 0, false)
			log := []api.Record{rec(2, 1, 4), rec(2, 2, 5)}
			c.nodes[node] = nodeState{up: true, follows: 7, given: 5, role: role, log: log}
			c.nodes[node].haveLog = [api.Nodes]bool{true, true, false, true, true}
			c.nodes[node].known = [api.Nodes]int{1, 2, 1, 2, 1}
			want := copyOf(c)
			crash(t, c, node)
			want.nodes[node] = nodeState{follows: 7, given: 5, role: api.Idle, log: log}
			unchanged(t, c, want)
			checkNode(t, c, node, api.Node{Up: false, Epoch: 7, Installed: 5, Role: api.Idle, Len: 2})
			restart(t, c, node)
			want.nodes[node].up = true
			unchanged(t, c, want)
			checkNode(t, c, node, api.Node{Up: true, Epoch: 7, Installed: 5, Role: api.Idle, Len: 2})
		}
	}
}

func TestP9CallsOfANodeThatIsDown(t *testing.T) {
	c := New()
	checkProduce(t, c, 1, 1, 1, 0, false)
	deliverAll(t, c)
	for node := range api.Nodes {
		crash(t, c, node)
	}
	for node := range api.Nodes {
		checkRefused(t, c, node, 1, 1, 1, api.ErrDown)
		checkRefused(t, c, node, 0, 0, -1, api.ErrDown)
		checkFetch(t, c, node, 0, api.Record{}, api.ErrDown)
		checkFetch(t, c, node, -1, api.Record{}, api.ErrDown)
	}
	for node := range api.Nodes {
		restart(t, c, node)
	}
	for node := range api.Nodes {
		checkRefused(t, c, node, 0, 0, -1, api.ErrArg)
		checkRefused(t, c, node, 1, 1, 1, api.ErrLeader)
		checkFetch(t, c, node, -1, api.Record{}, api.ErrLeader)
	}
}

// What is under way stays so, from a node that went down and to one: only what comes while it is down is lost.
func TestP9WhatIsUnderWay(t *testing.T) {
	c := New()
	checkProduce(t, c, 1, 1, 7, 0, false)
	c.Twice(0)
	crash(t, c, 1)
	checkWay(t, c, "Append:0>1@1/0 Append:0>2@1/0 Append:0>1@1/0")
	deliver(t, c, 0)
	checkWay(t, c, "Append:0>2@1/0 Append:0>1@1/0")
	checkNode(t, c, 1, api.Node{Epoch: 1, Installed: 1})
	c.Twice(1)
	drop(t, c, 1)
	deliver(t, c, 0)
	checkWay(t, c, "Append:0>1@1/0 Ack:2>0@1/1")
	crash(t, c, 2)
	deliver(t, c, 1) // its sender is down, its receiver is not
	if c.nodes[0].known[2] != 1 {
		t.Errorf("node 0 knows of %d records at node 2", c.nodes[0].known[2])
	}
	restart(t, c, 1)
	deliver(t, c, 0)
	checkWay(t, c, "Ack:1>0@1/1")
	deliver(t, c, 0)
	checkFetch(t, c, 0, 0, rec(1, 1, 7), api.OK)
	checkNode(t, c, 2, api.Node{Epoch: 1, Installed: 1, Len: 1})
}

// A leader writes on while a member is down; nothing is done until that one is up and has it.
func TestP9MemberComesBack(t *testing.T) {
	c := New()
	checkProduce(t, c, 1, 1, 1, 0, false)
	deliverAll(t, c)
	crash(t, c, 2)
	checkProduce(t, c, 1, 2, 2, 1, false)
	checkProduce(t, c, 2, 1, 3, 2, false)
	deliverAll(t, c)
	checkNode(t, c, 0, api.Node{Up: true, Epoch: 1, Installed: 1, Role: api.Serving, Len: 3, Done: 1})
	checkNode(t, c, 1, api.Node{Up: true, Epoch: 1, Installed: 1, Len: 3})
	checkNode(t, c, 2, api.Node{Epoch: 1, Installed: 1, Len: 1})
	checkFetch(t, c, 0, 0, rec(1, 1, 1), api.OK)
	checkFetch(t, c, 0, 1, api.Record{}, api.ErrEmpty)
	checkProduce(t, c, 2, 1, 3, 2, false)
	checkWay(t, c, "Append:0>2@1/1")
	deliverAll(t, c)
	checkProduce(t, c, 2, 1, 3, 2, false)
	restart(t, c, 2)
	deliverAll(t, c)
	checkProduce(t, c, 2, 1, 3, 2, true)
	checkFetch(t, c, 0, 1, rec(1, 2, 2), api.OK)
	checkFetch(t, c, 0, 2, rec(2, 1, 3), api.OK)
	checkNode(t, c, 2, api.Node{Up: true, Epoch: 1, Installed: 1, Len: 3})
}

// A leader that was down leads no more: an Ack of before says nothing to it, and nothing is sent again.
func TestP9LeaderComesBackIdle(t *testing.T) {
	c := New()
	checkProduce(t, c, 1, 1, 1, 0, false)
	checkProduce(t, c, 1, 2, 2, 1, false)
	deliver(t, c, 0, 0, 0, 0)
	checkWay(t, c, "Ack:1>0@1/1 Ack:2>0@1/1 Ack:1>0@1/2 Ack:2>0@1/2")
	deliver(t, c, 0, 0)
	checkWay(t, c, "Ack:1>0@1/2 Ack:2>0@1/2 Append:0>1@1/1 Append:0>2@1/1")
	checkFetch(t, c, 0, 0, rec(1, 1, 1), api.OK)
	crash(t, c, 0)
	restart(t, c, 0)
	before := copyOf(c)
	deliver(t, c, 0, 0)
	before.underWay = before.underWay[2:]
	unchanged(t, c, before)
	deliver(t, c, 0, 0) // what it sent ahead of that still comes
	checkWay(t, c, "Ack:1>0@1/2 Ack:2>0@1/2")
	deliverAll(t, c)
	checkNode(t, c, 0, api.Node{Up: true, Epoch: 1, Installed: 1, Role: api.Idle, Len: 2})
	checkRefused(t, c, 0, 1, 1, 1, api.ErrLeader)
	checkFetch(t, c, 0, 0, api.Record{}, api.ErrLeader)
}

func TestP9ClustersApart(t *testing.T) {
	c, d := New(), New()
	before := copyOf(d)
	crash(t, c, 0)
	unchanged(t, d, before)
	before = copyOf(c)
	crash(t, d, 1)
	restart(t, d, 1)
	unchanged(t, c, before)
}

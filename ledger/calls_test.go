package ledger

import (
	"testing"

	"ledger/api"
)

func TestP3New(t *testing.T) {
	c := New()
	checkWay(t, c, "")
	checkNode(t, c, 0, api.Node{Up: true, Epoch: 1, Installed: 1, Role: api.Serving})
	checkNode(t, c, 1, api.Node{Up: true, Epoch: 1, Installed: 1, Role: api.Idle})
	checkNode(t, c, 2, api.Node{Up: true, Epoch: 1, Installed: 1, Role: api.Idle})
	checkNode(t, c, 3, api.Node{Up: true, Role: api.Idle})
	checkNode(t, c, 4, api.Node{Up: true, Role: api.Idle})
	checkConfig(t, c, 1, 7, 0, 1)
}

func TestExamples(t *testing.T) {
	c := New()
	checkProduce(t, c, 1, 1, 65, 0, false)
	checkWay(t, c, "Append:0>1@1/0 Append:0>2@1/0")
	checkRefused(t, c, 0, 1, 3, 67, api.ErrGap)
	checkRefused(t, c, 1, 1, 1, 65, api.ErrLeader)
	checkFetch(t, c, 0, 0, api.Record{}, api.ErrEmpty)
	deliver(t, c, 0)
	checkWay(t, c, "Append:0>2@1/0 Ack:1>0@1/1")
	deliver(t, c, 1, 0, 0)
	checkWay(t, c, "")
	checkProduce(t, c, 1, 1, 9, 0, true)
	checkFetch(t, c, 0, 0, rec(1, 1, 65), api.OK)

	reconfigure(t, c, 24, 4)
	checkWay(t, c, "Start:-1>4@2/0")
	deliver(t, c, 0)
	checkWay(t, c, "Read:4>0@2/0 Read:4>1@2/0 Read:4>2@2/0")
	deliver(t, c, 1)
	checkNode(t, c, 1, api.Node{Up: true, Epoch: 2, Installed: 1, Role: api.Idle, Len: 1})
	checkWay(t, c, "Read:4>0@2/0 Read:4>2@2/0 Log:1>4@2/1")
	deliver(t, c, 2)
	checkNode(t, c, 4, api.Node{Up: true, Epoch: 2, Installed: 2, Role: api.Sending, Len: 1})
	checkWay(t, c, "Read:4>0@2/0 Read:4>2@2/0 State:4>3@2/1")
	deliver(t, c, 2)
	checkWay(t, c, "Read:4>0@2/0 Read:4>2@2/0 Have:3>4@2/0")
	deliver(t, c, 2)
	checkWay(t, c, "Read:4>0@2/0 Read:4>2@2/0 Ready:4>-1@2/0")
	deliver(t, c, 2)
	checkWay(t, c, "Read:4>0@2/0 Read:4>2@2/0 Serve:-1>4@2/0")
	deliver(t, c, 2)
	checkConfig(t, c, 2, 24, 4, 2)
	checkFetch(t, c, 4, 0, rec(1, 1, 65), api.OK)

	checkProduce(t, c, 1, 2, 66, 1, false)
	checkWay(t, c, "Read:4>0@2/0 Read:4>2@2/0 Append:0>1@1/1 Append:0>2@1/1")
	deliver(t, c, 3, 2, 2)
	checkWay(t, c, "Read:4>0@2/0 Read:4>2@2/0")
	checkNode(t, c, 1, api.Node{Up: true, Epoch: 2, Installed: 1, Role: api.Idle, Len: 1})
	checkNode(t, c, 2, api.Node{Up: true, Epoch: 1, Installed: 1, Role: api.Idle, Len: 2})
	checkProduce(t, c, 1, 2, 66, 1, false)
	checkFetch(t, c, 0, 1, api.Record{}, api.ErrEmpty)
}

func TestP4Edges(t *testing.T) {
	c := New()
	checkProduce(t, c, api.Producers, 1, api.MaxValue, 0, false)
	checkProduce(t, c, 1, 1, 0, 1, false)
	checkProduce(t, c, api.Producers, 2, 0, 2, false)
	deliverAll(t, c)
	checkFetch(t, c, 0, 0, rec(api.Producers, 1, api.MaxValue), api.OK)
	checkFetch(t, c, 0, 1, rec(1, 1, 0), api.OK)
	checkFetch(t, c, 0, 2, rec(api.Producers, 2, 0), api.OK)
	// No way leads to a Seq of 99 in a log of 60: it is a Seq, so the gap is what is wrong with it.
	checkRefused(t, c, 0, 1, api.MaxSeq, 0, api.ErrGap)
	checkRefused(t, c, 0, 1, api.MaxSeq+1, 0, api.ErrArg)
}

func TestP4OrderOfErrors(t *testing.T) {
	c := New()
	crash(t, c, 4)
	for _, node := range []int{least, -1, api.Nodes, most} {
		checkRefused(t, c, node, 0, 0, -1, api.ErrNode)
		checkRefused(t, c, node, 1, 1, 1, api.ErrNode)
	}
	checkRefused(t, c, 4, 0, 0, -1, api.ErrDown)
	checkRefused(t, c, 4, 1, 1, 1, api.ErrDown)
	for _, node := range []int{0, 1, 3} {
		for _, a := range []int{least, -1, 0, api.Producers + 1, most} {
			checkRefused(t, c, node, a, 2, 1, api.ErrArg)
		}
		for _, a := range []int{least, -1, 0, api.MaxSeq + 1, most} {
			checkRefused(t, c, node, 1, a, 1, api.ErrArg)
		}
		for _, a := range []int{least, -1, api.MaxValue + 1, most} {
			checkRefused(t, c, node, 1, 2, a, api.ErrArg)
		}
	}
	checkRefused(t, c, 1, 1, 2, 1, api.ErrLeader)
	checkRefused(t, c, 3, 1, 1, 1, api.ErrLeader)
	for _, role := range []int{api.Idle, api.Reading, api.Sending} {
		c.nodes[0].role = role
		checkRefused(t, c, 0, 1, 1, 1, api.ErrLeader)
	}
	c.nodes[0].role = api.Serving
	crash(t, c, 0)
	checkRefused(t, c, 0, 1, 1, 1, api.ErrDown)
}

func TestP4Gap(t *testing.T) {
	c := New()
	checkRefused(t, c, 0, 1, 2, 1, api.ErrGap)
	checkProduce(t, c, 1, 1, 1, 0, false)
	checkRefused(t, c, 0, 2, 2, 1, api.ErrGap)
	checkRefused(t, c, 0, 1, 3, 1, api.ErrGap)
	checkProduce(t, c, 1, 2, 1, 1, false)
	checkProduce(t, c, 1, 3, 1, 2, false)
	checkProduce(t, c, 2, 1, 1, 3, false)
}

func TestP4Full(t *testing.T) {
	c := New()
	fill(t, c)
	checkRefused(t, c, 0, 1, 31, 1, api.ErrFull)
	checkRefused(t, c, 0, 3, 1, 1, api.ErrFull)
	checkRefused(t, c, 0, 3, 2, 1, api.ErrGap)
	checkRefused(t, c, 0, 1, 32, 1, api.ErrGap)
	checkProduce(t, c, 2, 30, 1, api.MaxLog-1, true)
	checkNode(t, c, 0, api.Node{Up: true, Epoch: 1, Installed: 1, Role: api.Serving, Len: api.MaxLog, Done: api.MaxLog})
	checkFetch(t, c, 0, api.MaxLog-1, rec(2, 30, 59), api.OK)
	checkFetch(t, c, 0, api.MaxLog, api.Record{}, api.ErrEmpty)
}

// A record that is there already is not written again; it is sent only to those that lack something,
// from the first that they lack on, and only if it is not done itself.
func TestP4Again(t *testing.T) {
	c := New()
	checkProduce(t, c, 1, 1, 10, 0, false)
	deliverAll(t, c)
	checkProduce(t, c, 1, 2, 20, 1, false)
	checkProduce(t, c, 2, 1, 30, 2, false)
	checkWay(t, c, "Append:0>1@1/1 Append:0>2@1/1 Append:0>1@1/2 Append:0>2@1/2")
	drop(t, c, 3, 2, 0) // the second record comes to node 2 alone
	deliver(t, c, 0)
	checkWay(t, c, "Ack:2>0@1/2")
	deliver(t, c, 0)
	drop(t, c, 0)
	checkWay(t, c, "")
	checkProduce(t, c, 2, 1, 99, 2, false)
	checkWay(t, c, "Append:0>1@1/1 Append:0>2@1/2")
	drop(t, c, 0)
	deliver(t, c, 0, 0)
	checkWay(t, c, "")
	checkProduce(t, c, 1, 2, 99, 1, false)
	checkWay(t, c, "Append:0>1@1/1")
	drop(t, c, 0)
	checkProduce(t, c, 1, 1, 99, 0, true)
	checkWay(t, c, "")
	checkRefused(t, c, 0, 1, 1, api.MaxValue+1, api.ErrArg)
	checkProduce(t, c, 1, 2, 0, 1, false)
	deliverAll(t, c)
	checkProduce(t, c, 2, 1, 99, 2, true)
	checkFetch(t, c, 0, 1, rec(1, 2, 20), api.OK)
	checkFetch(t, c, 0, 2, rec(2, 1, 30), api.OK)
	checkNode(t, c, 0, api.Node{Up: true, Epoch: 1, Installed: 1, Role: api.Serving, Len: 3, Done: 3})
}

func TestP4NewRecordGoesToAll(t *testing.T) {
	c := New()
	checkProduce(t, c, 1, 1, 10, 0, false)
	drop(t, c, 0)
	deliver(t, c, 0, 0)
	checkProduce(t, c, 1, 2, 20, 1, false)
	checkWay(t, c, "Append:0>1@1/1 Append:0>2@1/1")
}

func TestP4AloneIsDoneAtOnce(t *testing.T) {
	c := New()
	moveTo(t, c, 1, 0)
	checkProduce(t, c, 1, 1, 10, 0, true)
	checkProduce(t, c, 1, 2, 20, 1, true)
	checkProduce(t, c, 1, 1, 30, 0, true)
	checkWay(t, c, "")
	checkFetch(t, c, 0, 1, rec(1, 2, 20), api.OK)
}

func TestP5Fetch(t *testing.T) {
	c := New()
	crash(t, c, 4)
	checkProduce(t, c, 1, 1, 10, 0, false)
	deliverAll(t, c)
	checkProduce(t, c, 1, 2, 20, 1, false)
	checkFetch(t, c, 0, 0, rec(1, 1, 10), api.OK)
	for _, offset := range []int{1, 2, api.MaxLog, most} {
		checkFetch(t, c, 0, offset, api.Record{}, api.ErrEmpty)
	}
	for _, offset := range []int{-1, least} {
		checkFetch(t, c, 0, offset, api.Record{}, api.ErrArg)
		checkFetch(t, c, 1, offset, api.Record{}, api.ErrLeader)
		checkFetch(t, c, 4, offset, api.Record{}, api.ErrDown)
		checkFetch(t, c, -1, offset, api.Record{}, api.ErrNode)
	}
	for _, node := range []int{least, -1, api.Nodes, most} {
		checkFetch(t, c, node, 0, api.Record{}, api.ErrNode)
	}
	checkFetch(t, c, 4, 0, api.Record{}, api.ErrDown)
	checkFetch(t, c, 1, 0, api.Record{}, api.ErrLeader)
	checkFetch(t, c, 3, 5, api.Record{}, api.ErrLeader)
	for _, role := range []int{api.Idle, api.Reading, api.Sending} {
		c.nodes[0].role = role
		checkFetch(t, c, 0, 0, api.Record{}, api.ErrLeader)
	}
}

func TestP7Node(t *testing.T) {
	c := New()
	for _, node := range []int{least, -1, api.Nodes, most} {
		if s, e := c.Node(node); s != (api.Node{}) || e != api.ErrNode {
			t.Errorf("Node(%d) = %+v, %d", node, s, e)
		}
	}
	checkProduce(t, c, 1, 1, 10, 0, false)
	checkProduce(t, c, 1, 2, 20, 1, false)
	deliver(t, c, 0, 0, 2)
	checkNode(t, c, 0, api.Node{Up: true, Epoch: 1, Installed: 1, Role: api.Serving, Len: 2, Done: 0})
	deliver(t, c, 2)
	checkNode(t, c, 0, api.Node{Up: true, Epoch: 1, Installed: 1, Role: api.Serving, Len: 2, Done: 1})
	checkNode(t, c, 1, api.Node{Up: true, Epoch: 1, Installed: 1, Role: api.Idle, Len: 1})
	c.nodes[1] = nodeState{follows: 7, given: 5, role: api.Sending, log: c.nodes[1].log}
	checkNode(t, c, 1, api.Node{Epoch: 7, Installed: 5, Role: api.Sending, Len: 1})
}

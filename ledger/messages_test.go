package ledger

import (
	"testing"

	"ledger/api"
)

// put lays a message into the list that no call of this cluster would have sent.
func put(c *Cluster, kind, from, to, epoch, n int, records ...api.Record) {
	c.underWay = append(c.underWay, message{kind: kind, from: from, to: to, epoch: epoch, n: n, records: records})
}

func TestP6NoMessage(t *testing.T) {
	c := New()
	for _, count := range []int{0, 2} {
		if count > 0 {
			checkProduce(t, c, 1, 1, 1, 0, false)
		}
		before := copyOf(c)
		for _, i := range []int{least, -1, count, count + 1, api.MaxMessages, most} {
			if e := c.Deliver(i); e != api.ErrMessage {
				t.Errorf("Deliver(%d) = %d", i, e)
			}
			if e := c.Drop(i); e != api.ErrMessage {
				t.Errorf("Drop(%d) = %d", i, e)
			}
			if e := c.Twice(i); e != api.ErrMessage {
				t.Errorf("Twice(%d) = %d", i, e)
			}
			unchanged(t, c, before)
		}
	}
}

func TestP6MessagesAreOnlyTold(t *testing.T) {
	c := New()
	checkProduce(t, c, 1, 1, 1, 0, false)
	checkProduce(t, c, 1, 2, 1, 1, false)
	before := copyOf(c)
	checkWay(t, c, "Append:0>1@1/0 Append:0>2@1/0 Append:0>1@1/1 Append:0>2@1/1")
	checkWay(t, c, "Append:0>1@1/0 Append:0>2@1/0 Append:0>1@1/1 Append:0>2@1/1")
	unchanged(t, c, before)
}

func TestP6DropTakesOneOut(t *testing.T) {
	c := New()
	checkProduce(t, c, 1, 1, 1, 0, false)
	checkProduce(t, c, 1, 2, 1, 1, false)
	before := copyOf(c)
	drop(t, c, 1)
	checkWay(t, c, "Append:0>1@1/0 Append:0>1@1/1 Append:0>2@1/1")
	drop(t, c, 2)
	checkWay(t, c, "Append:0>1@1/0 Append:0>1@1/1")
	drop(t, c, 0, 0)
	checkWay(t, c, "")
	before.underWay = nil
	unchanged(t, c, before)
}

func TestP6Twice(t *testing.T) {
	c := New()
	checkProduce(t, c, 1, 1, 7, 0, false)
	if e := c.Twice(0); e != api.OK {
		t.Errorf("Twice(0) = %d", e)
	}
	checkWay(t, c, "Append:0>1@1/0 Append:0>2@1/0 Append:0>1@1/0")
	drop(t, c, 0)
	deliverAll(t, c) // the double has the record too
	checkFetch(t, c, 0, 0, rec(1, 1, 7), api.OK)
}

func TestP6NoRoom(t *testing.T) {
	c := New()
	for i := range api.MaxMessages / 2 {
		checkProduce(t, c, 1, i+1, i, i, false)
	}
	drop(t, c, api.MaxMessages-1)
	// There is room for one: the Append to node 1 finds it, the one to node 2 is lost.
	checkProduce(t, c, 2, 1, 5, 25, false)
	if len(c.underWay) != api.MaxMessages || c.underWay[api.MaxMessages-1].to != 1 || c.underWay[api.MaxMessages-1].n != 25 {
		t.Fatalf("%d are under way, the last is %+v", len(c.underWay), c.underWay[len(c.underWay)-1])
	}
	before := copyOf(c)
	if e := c.Twice(3); e != api.OK {
		t.Errorf("Twice(3) = %d", e)
	}
	unchanged(t, c, before)
	checkProduce(t, c, 2, 1, 5, 25, false)
	unchanged(t, c, before)
	// What is delivered leaves room for its answer.
	deliver(t, c, 0)
	last := c.underWay[len(c.underWay)-1]
	if len(c.underWay) != api.MaxMessages || last.kind != api.Ack || last.from != 1 || last.n != 1 {
		t.Errorf("%d are under way, the last is %+v", len(c.underWay), last)
	}
}

func TestP6DownLosesIt(t *testing.T) {
	c := New()
	checkProduce(t, c, 1, 1, 1, 0, false)
	deliver(t, c, 0)
	crash(t, c, 2)
	deliver(t, c, 0)
	checkWay(t, c, "Ack:1>0@1/1")
	checkNode(t, c, 2, api.Node{Epoch: 1, Installed: 1})
	crash(t, c, 0)
	deliver(t, c, 0)
	checkWay(t, c, "")
	if c.nodes[0].known[1] != 0 {
		t.Errorf("a node that is down was told of %d records", c.nodes[0].known[1])
	}
}

func TestP8AppendOutOfTurn(t *testing.T) {
	c := New()
	for i := range 3 {
		checkProduce(t, c, 1, i+1, i, i, false)
	}
	drop(t, c, 1, 2, 3)
	checkWay(t, c, "Append:0>1@1/0 Append:0>1@1/1 Append:0>1@1/2")
	deliver(t, c, 1) // ahead of its turn
	checkWay(t, c, "Append:0>1@1/0 Append:0>1@1/2 Ack:1>0@1/0")
	checkNode(t, c, 1, api.Node{Up: true, Epoch: 1, Installed: 1})
	c.Twice(0)
	deliver(t, c, 0)
	checkNode(t, c, 1, api.Node{Up: true, Epoch: 1, Installed: 1, Len: 1})
	deliver(t, c, 2) // behind its turn
	checkWay(t, c, "Append:0>1@1/2 Ack:1>0@1/0 Ack:1>0@1/1 Ack:1>0@1/1")
	checkNode(t, c, 1, api.Node{Up: true, Epoch: 1, Installed: 1, Len: 1})
	deliverAll(t, c)
	checkNode(t, c, 1, api.Node{Up: true, Epoch: 1, Installed: 1, Len: 3})
	if c.nodes[1].log[0] != rec(1, 1, 0) || c.nodes[1].log[1] != rec(1, 2, 1) || c.nodes[1].log[2] != rec(1, 3, 2) {
		t.Errorf("the member's log: %v", c.nodes[1].log)
	}
}

// Where one of the conditions of an Append does not hold, nothing happens: not even an answer goes out.
func TestP8AppendRefused(t *testing.T) {
	cases := []nodeState{
		{up: true, follows: 2, given: 1},
		{up: true, follows: 1, given: 0},
		{up: true, follows: 0, given: 1},
		{up: true, follows: 2, given: 2},
		{up: true, follows: 1, given: 1, role: api.Reading},
		{up: true, follows: 1, given: 1, role: api.Sending},
		{up: true, follows: 1, given: 1, role: api.Serving},
		{follows: 1, given: 1},
	}
	for i, n := range cases {
		c := New()
		c.nodes[1] = n
		before := copyOf(c)
		put(c, api.Append, 0, 1, 1, 0, rec(1, 1, 1))
		deliver(t, c, 0)
		if !same(c, before) {
			t.Errorf("case %d: %+v, under way: %+v", i, c.nodes[1], c.underWay)
		}
	}
	c := New()
	c.nodes[1].follows = 2
	c.nodes[1].given = 2
	put(c, api.Append, 4, 1, 2, 0, rec(1, 1, 1))
	deliver(t, c, 0)
	checkWay(t, c, "Ack:1>4@2/1")
}

func TestP8Ack(t *testing.T) {
	c := New()
	for i := range 3 {
		checkProduce(t, c, 1, i+1, i, i, false)
	}
	drop(t, c, 5, 4, 3, 2, 1, 0)
	put(c, api.Ack, 2, 0, 1, 2)
	deliver(t, c, 0)
	checkWay(t, c, "Append:0>2@1/2")
	put(c, api.Ack, 2, 0, 1, 1) // an older one: what is known stays
	deliver(t, c, 1)
	checkWay(t, c, "Append:0>2@1/2 Append:0>2@1/2")
	put(c, api.Ack, 2, 0, 1, 2) // the same one
	deliver(t, c, 2)
	checkWay(t, c, "Append:0>2@1/2 Append:0>2@1/2 Append:0>2@1/2")
	drop(t, c, 0, 0, 0)
	put(c, api.Ack, 2, 0, 1, 3)
	deliver(t, c, 0)
	checkWay(t, c, "")
	put(c, api.Ack, 2, 0, 1, 0) // as node 2 has all of them, it needs nothing
	deliver(t, c, 0)
	checkWay(t, c, "")
	checkFetch(t, c, 0, 0, api.Record{}, api.ErrEmpty)
	put(c, api.Ack, 1, 0, 1, 1)
	deliver(t, c, 0)
	checkWay(t, c, "Append:0>1@1/1")
	checkFetch(t, c, 0, 0, rec(1, 1, 0), api.OK)
	checkFetch(t, c, 0, 1, api.Record{}, api.ErrEmpty)
}

func TestP8AckRefused(t *testing.T) {
	cases := []nodeState{
		{up: true, follows: 2, given: 1, role: api.Serving},
		{up: true, follows: 1, given: 1, role: api.Idle},
		{up: true, follows: 1, given: 1, role: api.Reading},
		{up: true, follows: 1, given: 1, role: api.Sending},
		{follows: 1, given: 1, role: api.Serving},
	}
	for i, n := range cases {
		c := New()
		c.nodes[0] = n
		c.nodes[0].log = []api.Record{rec(1, 1, 1), rec(1, 2, 2)}
		before := copyOf(c)
		put(c, api.Ack, 1, 0, 1, 1)
		deliver(t, c, 0)
		if !same(c, before) {
			t.Errorf("case %d: %+v, under way: %+v", i, c.nodes[0], c.underWay)
		}
	}
}

// Another leader and other members than those of a new cluster: what is sent goes by the node's epoch.
func TestP8OtherMembers(t *testing.T) {
	c := New()
	moveTo(t, c, 25, 3)
	checkProduceAt(t, c, 3, 1, 1, 5, 0, false)
	checkWay(t, c, "Append:3>0@2/0 Append:3>4@2/0")
	deliver(t, c, 1, 1)
	checkFetch(t, c, 3, 0, api.Record{}, api.ErrEmpty)
	deliverAll(t, c)
	checkFetch(t, c, 3, 0, rec(1, 1, 5), api.OK)
}

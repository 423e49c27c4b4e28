package ledger

import (
	"testing"

	"ledger/api"
)

func TestP1NilCluster(t *testing.T) {
	var c *Cluster
	for _, n := range []int{least, -1, 0, 1, 5, most} {
		if k, d, e := c.Produce(n, n, n, n); k != 0 || d || e != api.ErrNil {
			t.Errorf("Produce: %d, %v, %d", k, d, e)
		}
		if r, e := c.Fetch(n, n); r != (api.Record{}) || e != api.ErrNil {
			t.Errorf("Fetch: %v, %d", r, e)
		}
		if l, e := c.Messages(); l != nil || e != api.ErrNil {
			t.Errorf("Messages: %v, %d", l, e)
		}
		if s, e := c.Node(n); s != (api.Node{}) || e != api.ErrNil {
			t.Errorf("Node: %v, %d", s, e)
		}
		if g, e := c.Config(); g != (api.Config{}) || e != api.ErrNil {
			t.Errorf("Config: %v, %d", g, e)
		}
		plain := []api.Errno{c.Deliver(n), c.Drop(n), c.Twice(n), c.Crash(n), c.Restart(n), c.Reconfigure(n, n), c.Remind()}
		for i, e := range plain {
			if e != api.ErrNil {
				t.Errorf("call %d: %d", i, e)
			}
		}
	}
}

// Every call at every mix of odd numbers: none panics, and a refusal tells nothing and changes nothing.
func TestP1AllNumbers(t *testing.T) {
	numbers := []int{least, -1, 0, 1, 2, 3, 4, 5, 31, 32, 50, 60, 99, 100, 255, 256, most}
	fresh := New()
	checkProduce(t, fresh, 1, 1, 1, 0, false)
	crash(t, fresh, 3)
	handing := copyOf(fresh)
	reconfigure(t, handing, 22, 4)
	deliver(t, handing, 2, 2, 4)
	checkWay(t, handing, "Append:0>1@1/0 Append:0>2@1/0 Read:4>1@2/0 Read:4>2@2/0 State:4>1@2/1 State:4>2@2/1")
	late := copyOf(fresh)
	for range api.MaxEpochs - 1 {
		reconfigure(t, late, 16, 4)
	}
	for _, c := range []*Cluster{fresh, handing, late} {
		for _, a := range numbers {
			for _, b := range numbers {
				checkPair(t, c, a, b)
				for _, d := range numbers {
					checkTriple(t, c, a, b, d)
				}
			}
		}
	}
}

func checkPair(t *testing.T, c *Cluster, a, b int) {
	t.Helper()
	d := copyOf(c)
	if r, e := d.Fetch(a, b); e != api.OK && r != (api.Record{}) {
		t.Errorf("Fetch(%d, %d) = %v, %d", a, b, r, e)
	}
	if s, e := d.Node(a); e != api.OK && s != (api.Node{}) {
		t.Errorf("Node(%d) = %v, %d", a, s, e)
	}
	unchanged(t, d, c)
	if e := d.Twice(a); e != api.OK {
		unchanged(t, d, c)
	}
	d = copyOf(c)
	if e := d.Drop(a); e != api.OK {
		unchanged(t, d, c)
	}
	d = copyOf(c)
	if e := d.Deliver(a); e != api.OK {
		unchanged(t, d, c)
	}
	d = copyOf(c)
	if e := d.Crash(a); e != api.OK {
		unchanged(t, d, c)
	}
	d = copyOf(c)
	if e := d.Restart(a); e != api.OK {
		unchanged(t, d, c)
	}
	d = copyOf(c)
	if e := d.Reconfigure(a, b); e != api.OK {
		unchanged(t, d, c)
	}
	d = copyOf(c)
	if e := d.Remind(); e != api.OK {
		unchanged(t, d, c)
	}
}

func checkTriple(t *testing.T, c *Cluster, a, b, x int) {
	t.Helper()
	for _, node := range []int{least, -1, 0, 1, 3, 5, most} {
		d := copyOf(c)
		k, done, e := d.Produce(node, a, b, x)
		if e == api.OK {
			continue
		}
		if k != 0 || done {
			t.Errorf("Produce(%d, %d, %d, %d) = %d, %v, %d", node, a, b, x, k, done, e)
		}
		unchanged(t, d, c)
	}
}

// A long disorderly run, in which all nodes but the leader go down and come up again: every call ends,
// the list and the logs keep their bounds, what is done stays, and every member's log is the beginning
// of the leader's.
func TestP1LongRun(t *testing.T) {
	for seed := range 20 {
		c := New()
		number := uint64(seed)*2654435761 + 1
		var told []api.Record
		var seqs [api.Producers + 1]int
		for range 3000 {
			number = number*6364136223846793005 + 1442695040888963407
			pick := int(number >> 33)
			producer := 1 + pick%api.Producers
			switch {
			case pick%7 == 0:
				if _, _, e := c.Produce(0, producer, seqs[producer]+1, pick%256); e == api.OK {
					seqs[producer]++
				}
			case pick%7 == 1:
				c.Produce(0, producer, seqs[producer], 0)
			case pick%11 == 2:
				c.Drop(pick % 50)
			case pick%11 == 3:
				c.Twice(pick % 50)
			case pick%13 == 4:
				c.Crash(1 + pick%4)
			case pick%13 == 5 || pick%13 == 6:
				c.Restart(1 + pick%4)
			default:
				c.Deliver(pick % max(1, len(c.underWay)))
			}
			told = checkRun(t, c, told)
		}
		if len(told) == 0 {
			t.Errorf("run %d: nothing was done", seed)
		}
	}
}

func checkRun(t *testing.T, c *Cluster, told []api.Record) []api.Record {
	t.Helper()
	lead := c.nodes[0].log
	if len(c.underWay) > api.MaxMessages || len(lead) > api.MaxLog {
		t.Fatalf("%d messages, %d records", len(c.underWay), len(lead))
	}
	for _, n := range c.nodes[1:3] {
		for i, r := range n.log {
			if i >= len(lead) || lead[i] != r {
				t.Fatalf("a member has %v at %d, the leader's log is %v", r, i, lead)
			}
		}
	}
	s, _ := c.Node(0)
	if s.Done < len(told) || s.Done > len(c.nodes[1].log) || s.Done > len(c.nodes[2].log) {
		t.Fatalf("%d are done, %d were, the members have %d and %d", s.Done, len(told), len(c.nodes[1].log), len(c.nodes[2].log))
	}
	for i, r := range told {
		if now, e := c.Fetch(0, i); now != r || e != api.OK {
			t.Fatalf("Fetch(0, %d) = %v, %d, it was %v", i, now, e, r)
		}
	}
	for i := len(told); i < s.Done; i++ {
		r, _ := c.Fetch(0, i)
		told = append(told, r)
	}
	return told
}

func TestP2Clusters(t *testing.T) {
	c, d := New(), New()
	before := copyOf(d)
	checkProduce(t, c, 1, 1, 1, 0, false)
	deliver(t, c, 0)
	unchanged(t, d, before)
	before = copyOf(c)
	checkProduce(t, d, 2, 1, 2, 0, false)
	deliverAll(t, d)
	unchanged(t, c, before)
}

func TestP2ListIsTheCallers(t *testing.T) {
	c := New()
	checkProduce(t, c, 1, 1, 1, 0, false)
	checkProduce(t, c, 1, 2, 1, 1, false)
	drop(t, c, 3) // so that the list may have spare room
	before := copyOf(c)
	first, _ := c.Messages()
	second, _ := c.Messages()
	kept := append([]api.Message(nil), second...)
	room := first[:cap(first)]
	for i := range room {
		room[i] = api.Message{Kind: 77, From: 77, To: 77, Epoch: 77, N: 77}
	}
	first = append(first, api.Message{Kind: 78})
	unchanged(t, c, before)
	checkWay(t, c, "Append:0>1@1/0 Append:0>2@1/0 Append:0>1@1/1")
	checkProduce(t, c, 2, 1, 1, 2, false)
	deliverAll(t, c)
	for i, m := range second {
		if m != kept[i] || first[i].Kind != 77 {
			t.Errorf("the caller's lists changed: %v, %v", second, first)
		}
	}
}

package ledger

import (
	"math/rand"
	"testing"

	"ledger/api"
)

// witness holds what was ever told to be done in a cluster, as callers saw it.
type witness struct {
	t      *testing.T
	c      *Cluster
	at     [api.MaxLog]api.Record // told by Fetch; none: a Producer of 0
	offset [api.Producers + 1][api.MaxSeq + 1]int
	count  int // how many records have an offset
	deaf   int // the node that hears hardly anything
}

func newWitness(t *testing.T) *witness {
	w := &witness{t: t, c: New()}
	for p := range w.offset {
		for s := range w.offset[p] {
			w.offset[p][s] = -1
		}
	}
	return w
}

// told notes that this record is done at this offset, which must be its one and only.
func (w *witness) told(producer, seq, at int) {
	w.t.Helper()
	was := w.offset[producer][seq]
	if was >= 0 && was != at {
		w.t.Fatalf("the record %d, %d was told to be done at %d, and now at %d", producer, seq, was, at)
	}
	if was < 0 {
		w.count++
	}
	w.offset[producer][seq] = at
	if r := w.at[at]; r.Producer != 0 && (r.Producer != producer || r.Seq != seq) {
		w.t.Fatalf("at %d the record %d, %d is done, and now %d, %d", at, r.Producer, r.Seq, producer, seq)
	}
}

// look fetches all that any node tells, and holds it against all that was told before (P12).
func (w *witness) look() {
	w.t.Helper()
	for node := range api.Nodes {
		var last [api.Producers + 1]int
		for at := range api.MaxLog + 1 {
			r, e := w.c.Fetch(node, at)
			if e != api.OK {
				break
			}
			if r.Seq != last[r.Producer]+1 {
				w.t.Fatalf("node %d tells the Seq %d of the producer %d behind %d", node, r.Seq, r.Producer, last[r.Producer])
			}
			last[r.Producer] = r.Seq
			if w.at[at].Producer != 0 && w.at[at] != r {
				w.t.Fatalf("node %d tells %v at %d, it was %v", node, r, at, w.at[at])
			}
			w.told(r.Producer, r.Seq, at)
			w.at[at] = r
		}
	}
}

func (w *witness) produce(node, producer, seq, value int) {
	w.t.Helper()
	if at, done, e := w.c.Produce(node, producer, seq, value); e == api.OK && done {
		w.told(producer, seq, at)
	}
}

// next is a Seq at which something can happen: one of the log of some node, or the one behind.
func (w *witness) next(r *rand.Rand, node, producer int) int {
	last := 0
	for _, x := range w.c.nodes[node].log {
		if x.Producer == producer {
			last++
		}
	}
	return max(1, last+1-r.Intn(3))
}

// aServer is a node that serves, if one does: several may at once, each in its own epoch.
func (w *witness) aServer(r *rand.Rand) int {
	first := r.Intn(api.Nodes)
	for i := range api.Nodes {
		if node := (first + i) % api.Nodes; w.c.nodes[node].role == api.Serving {
			return node
		}
	}
	return first
}

// step is one call, drawn so that epochs come to serve and messages get lost, doubled and turned round.
// For a while at a time one node hears hardly anything: so an old leader serves on beside a new one.
func (w *witness) step(r *rand.Rand, value int) {
	w.t.Helper()
	c, node := w.c, r.Intn(api.Nodes)
	if r.Intn(60) == 0 {
		w.deaf = node
	}
	pick := r.Intn(max(1, len(c.underWay)))
	switch draw := r.Intn(200); {
	case draw < 40:
		node = w.aServer(r)
		producer := 1 + r.Intn(api.Producers)
		w.produce(node, producer, w.next(r, node, producer), value%(api.MaxValue+1))
	case draw < 44:
		c.Drop(pick)
	case draw < 49:
		c.Twice(pick)
	case draw < 50:
		c.Crash(node)
	case draw < 56:
		c.Restart(node)
	case draw < 60:
		c.Reconfigure(1+r.Intn(31), node)
	case draw < 64:
		c.Remind()
	case draw < 120:
		w.deliver(r, 0)
	default:
		w.deliver(r, pick)
	}
}

func (w *witness) deliver(r *rand.Rand, i int) {
	if i < len(w.c.underWay) && w.c.underWay[i].to == w.deaf && r.Intn(20) > 0 {
		w.c.Drop(i)
		return
	}
	w.c.Deliver(i)
}

func (w *witness) checkBounds() {
	w.t.Helper()
	if len(w.c.underWay) > api.MaxMessages || len(w.c.epochs) > api.MaxEpochs {
		w.t.Fatalf("%d messages, %d epochs", len(w.c.underWay), len(w.c.epochs))
	}
	for i, n := range w.c.nodes {
		if len(n.log) > api.MaxLog || n.given > n.follows || n.follows > len(w.c.epochs) {
			w.t.Fatalf("node %d: %+v", i, n)
		}
	}
	checkApart(w.t, w.c)
}

func TestP12DrawnRuns(t *testing.T) {
	records, epochs, two := 0, 0, 0
	for seed := range 400 {
		r := rand.New(rand.NewSource(int64(seed)))
		w := newWitness(t)
		active := 1
		for i := range 600 {
			w.step(r, i)
			w.look()
			w.checkBounds()
			if w.c.active < active {
				t.Fatalf("the epoch %d was active, and now %d is", active, w.c.active)
			}
			if w.c.active > active {
				epochs++
			}
			active = w.c.active
			if countServing(w.c) > 1 {
				two++
			}
		}
		records += w.count
	}
	// Runs in which little happens would show nothing.
	if records < 3000 || epochs < 400 || two < 1000 {
		t.Errorf("%d records were done, %d epochs became active, %d times two nodes served", records, epochs, two)
	}
}

func countServing(c *Cluster) int {
	count := 0
	for _, n := range c.nodes {
		if n.role == api.Serving {
			count++
		}
	}
	return count
}

// Two leaders at once: the older one's write is never done, and what is done is the same at both.
func TestP12TwoLeaders(t *testing.T) {
	c := New()
	checkProduce(t, c, 1, 1, 5, 0, false)
	deliverAll(t, c)
	reconfigure(t, c, 6, 2)
	deliver(t, c, 0)
	drop(t, c, 0) // node 0 does not hear of it
	deliverAll(t, c)
	checkNode(t, c, 0, api.Node{Up: true, Epoch: 1, Installed: 1, Role: api.Serving, Len: 1, Done: 1})
	checkNode(t, c, 2, api.Node{Up: true, Epoch: 2, Installed: 2, Role: api.Serving, Len: 1, Done: 1})
	checkFetch(t, c, 0, 0, rec(1, 1, 5), api.OK)
	checkFetch(t, c, 2, 0, rec(1, 1, 5), api.OK)
	checkProduce(t, c, 1, 2, 6, 1, false)
	checkProduceAt(t, c, 2, 1, 2, 7, 1, false)
	checkWay(t, c, "Append:0>1@1/1 Append:0>2@1/1 Append:2>1@2/1")
	deliverAll(t, c)
	checkFetch(t, c, 0, 1, api.Record{}, api.ErrEmpty)
	checkProduce(t, c, 1, 2, 6, 1, false)
	deliverAll(t, c)
	checkFetch(t, c, 0, 1, api.Record{}, api.ErrEmpty)
	checkFetch(t, c, 2, 1, rec(1, 2, 7), api.OK)
	checkProduceAt(t, c, 2, 1, 2, 9, 1, true)
	// The older leader comes to the log again: its own write is gone, and the Seq stands where it was done.
	moveTo(t, c, 1, 0)
	checkFetch(t, c, 0, 1, rec(1, 2, 7), api.OK)
	checkProduce(t, c, 1, 2, 6, 1, true)
}

// checkServes is P13: the new leader serves, all that was told is there, and a record comes to be done.
func (w *witness) checkServes(members, leader int) {
	t, c := w.t, w.c
	t.Helper()
	moveTo(t, c, members, leader)
	g, _ := c.Config()
	if g.Epoch != g.Active || c.nodes[leader].role != api.Serving || c.nodes[leader].follows != g.Epoch {
		t.Fatalf("behind Reconfigure(%d, %d): %+v, %+v", members, leader, g, c.nodes[leader])
	}
	w.look()
	for at, r := range w.at {
		if r.Producer != 0 {
			checkFetch(t, c, leader, at, r, api.OK)
		}
	}
	n, _ := c.Node(leader)
	if n.Len == api.MaxLog {
		return
	}
	seq := 1
	for offsetOf(c.nodes[leader].log, 1, seq) >= 0 {
		seq++
	}
	checkProduceAt(t, c, leader, 1, seq, 77, n.Len, members == 1<<leader)
	deliverAll(t, c)
	checkProduceAt(t, c, leader, 1, seq, 0, n.Len, true)
	checkFetch(t, c, leader, n.Len, rec(1, seq, 77), api.OK)
	w.look()
}

func TestP13EveryEpoch(t *testing.T) {
	for members := 1; members < 1<<api.Nodes; members++ {
		for leader := range api.Nodes {
			if members&(1<<leader) == 0 {
				continue
			}
			w := newWitness(t)
			w.checkServes(members, leader)
			w.checkServes(31-members|1, 0)
			w.checkServes(members, leader)
		}
	}
}

// Whatever went before: once all nodes are up and nothing is under way, an epoch comes to serve.
func TestP13AfterDrawnRuns(t *testing.T) {
	tried := 0
	for seed := range 400 {
		r := rand.New(rand.NewSource(int64(1000 + seed)))
		w := newWitness(t)
		for i := range 20 + r.Intn(400) {
			w.step(r, i)
			w.look()
		}
		for node := range api.Nodes {
			w.c.Restart(node)
		}
		for len(w.c.underWay) > 0 {
			drop(t, w.c, 0)
		}
		if len(w.c.epochs) == api.MaxEpochs {
			continue
		}
		leader := r.Intn(api.Nodes)
		w.checkServes(r.Intn(32)|1<<leader, leader)
		tried++
	}
	if tried < 200 {
		t.Errorf("only %d runs left room for an epoch", tried)
	}
}

// A full log goes over whole, and the answers are as before.
func TestP13FullLog(t *testing.T) {
	c := New()
	fill(t, c)
	moveTo(t, c, 24, 4)
	checkNode(t, c, 4, api.Node{Up: true, Epoch: 2, Installed: 2, Role: api.Serving, Len: api.MaxLog, Done: api.MaxLog})
	checkNode(t, c, 3, api.Node{Up: true, Epoch: 2, Installed: 2, Role: api.Idle, Len: api.MaxLog})
	checkFetch(t, c, 4, api.MaxLog-1, rec(2, 30, 59), api.OK)
	checkProduceAt(t, c, 4, 1, 1, 0, 0, true)
	checkRefused(t, c, 4, 1, 31, 0, api.ErrFull)
}

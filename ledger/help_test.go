package ledger

import (
	"fmt"
	"reflect"
	"strings"
	"testing"

	"ledger/api"
)

const (
	least = -1 << 63
	most  = 1<<63 - 1
)

// copyOf is the cluster as it is now, sharing no memory with it.
func copyOf(c *Cluster) *Cluster {
	d := *c
	for i := range d.nodes {
		d.nodes[i].log = append([]api.Record(nil), c.nodes[i].log...)
	}
	d.epochs = append([]epochState(nil), c.epochs...)
	d.underWay = append([]message(nil), c.underWay...)
	for i := range d.underWay {
		d.underWay[i].records = append([]api.Record(nil), c.underWay[i].records...)
	}
	return &d
}

func same(c, d *Cluster) bool { return reflect.DeepEqual(copyOf(c), copyOf(d)) }

func unchanged(t *testing.T, c, before *Cluster) {
	t.Helper()
	if !same(c, before) {
		t.Errorf("it changed: %+v, it was %+v", *c, *before)
	}
}

func checkWay(t *testing.T, c *Cluster, want string) {
	t.Helper()
	names := []string{"?", "Start", "Read", "Log", "State", "Have", "Ready", "Serve", "Append", "Ack"}
	list, e := c.Messages()
	var texts []string
	for _, m := range list {
		texts = append(texts, fmt.Sprintf("%s:%d>%d@%d/%d", names[m.Kind], m.From, m.To, m.Epoch, m.N))
	}
	if got := strings.Join(texts, " "); e != api.OK || got != want {
		t.Errorf("under way: %q, %d, want %q", got, e, want)
	}
}

// checkProduce is of node 0, which leads a new cluster.
func checkProduce(t *testing.T, c *Cluster, producer, seq, value, at int, done bool) {
	t.Helper()
	checkProduceAt(t, c, 0, producer, seq, value, at, done)
}

func checkProduceAt(t *testing.T, c *Cluster, node, producer, seq, value, at int, done bool) {
	t.Helper()
	k, d, e := c.Produce(node, producer, seq, value)
	if k != at || d != done || e != api.OK {
		t.Errorf("Produce(%d, %d, %d, %d) = %d, %v, %d, want %d, %v, OK", node, producer, seq, value, k, d, e, at, done)
	}
}

func checkRefused(t *testing.T, c *Cluster, node, producer, seq, value int, want api.Errno) {
	t.Helper()
	before := copyOf(c)
	k, d, e := c.Produce(node, producer, seq, value)
	if k != 0 || d || e != want {
		t.Errorf("Produce(%d, %d, %d, %d) = %d, %v, %d, want 0, false, %d", node, producer, seq, value, k, d, e, want)
	}
	unchanged(t, c, before)
}

func checkFetch(t *testing.T, c *Cluster, node, offset int, record api.Record, want api.Errno) {
	t.Helper()
	before := copyOf(c)
	r, e := c.Fetch(node, offset)
	if r != record || e != want {
		t.Errorf("Fetch(%d, %d) = %v, %d, want %v, %d", node, offset, r, e, record, want)
	}
	unchanged(t, c, before)
}

func checkNode(t *testing.T, c *Cluster, node int, want api.Node) {
	t.Helper()
	before := copyOf(c)
	if n, e := c.Node(node); n != want || e != api.OK {
		t.Errorf("Node(%d) = %+v, %d, want %+v, OK", node, n, e, want)
	}
	unchanged(t, c, before)
}

func checkConfig(t *testing.T, c *Cluster, epoch, members, leader, active int) {
	t.Helper()
	before := copyOf(c)
	want := api.Config{Epoch: epoch, Members: members, Leader: leader, Active: active}
	if g, e := c.Config(); g != want || e != api.OK {
		t.Errorf("Config() = %+v, %d, want %+v, OK", g, e, want)
	}
	unchanged(t, c, before)
}

func reconfigure(t *testing.T, c *Cluster, members, leader int) {
	t.Helper()
	if e := c.Reconfigure(members, leader); e != api.OK {
		t.Fatalf("Reconfigure(%d, %d) = %d", members, leader, e)
	}
}

func remind(t *testing.T, c *Cluster) {
	t.Helper()
	if e := c.Remind(); e != api.OK {
		t.Fatalf("Remind() = %d", e)
	}
}

func deliver(t *testing.T, c *Cluster, list ...int) {
	t.Helper()
	for _, i := range list {
		if e := c.Deliver(i); e != api.OK {
			t.Fatalf("Deliver(%d) = %d", i, e)
		}
	}
}

func drop(t *testing.T, c *Cluster, list ...int) {
	t.Helper()
	for _, i := range list {
		if e := c.Drop(i); e != api.OK {
			t.Fatalf("Drop(%d) = %d", i, e)
		}
	}
}

func crash(t *testing.T, c *Cluster, node int) {
	t.Helper()
	if e := c.Crash(node); e != api.OK {
		t.Fatalf("Crash(%d) = %d", node, e)
	}
}

func restart(t *testing.T, c *Cluster, node int) {
	t.Helper()
	if e := c.Restart(node); e != api.OK {
		t.Fatalf("Restart(%d) = %d", node, e)
	}
}

// deliverAll delivers in order until nothing is under way.
func deliverAll(t *testing.T, c *Cluster) {
	t.Helper()
	for range 100000 {
		if len(c.underWay) == 0 {
			return
		}
		deliver(t, c, 0)
	}
	t.Fatal("something is under way for ever")
}

// moveTo makes an epoch and delivers in order until nothing is under way.
func moveTo(t *testing.T, c *Cluster, members, leader int) {
	t.Helper()
	reconfigure(t, c, members, leader)
	deliverAll(t, c)
}

// fill makes a log of MaxLog records, of which all members have all.
func fill(t *testing.T, c *Cluster) {
	t.Helper()
	for i := range api.MaxLog {
		checkProduce(t, c, 1+i%2, 1+i/2, i, i, false)
		deliverAll(t, c)
	}
}

func rec(producer, seq, value int) api.Record {
	return api.Record{Producer: producer, Seq: seq, Value: value}
}

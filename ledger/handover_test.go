package ledger

import (
	"reflect"
	"testing"

	"ledger/api"
)

// arrival is a node ahead of a message and behind it, and what it has sent.
type arrival struct {
	before, after nodeState
	way           string
}

// checkArrivals lays the message into a cluster whose epochs 2 and 3 have the members 1, 3 and 4,
// the leader 3 and the previous epoch 1.
func checkArrivals(t *testing.T, m message, cases []arrival) {
	t.Helper()
	for i, a := range cases {
		c := New()
		reconfigure(t, c, 26, 3)
		reconfigure(t, c, 26, 3)
		drop(t, c, 0, 0)
		c.nodes[m.to] = a.before
		want := copyOf(c)
		want.nodes[m.to] = a.after
		c.underWay = append(c.underWay, m)
		deliver(t, c, 0)
		t.Logf("case %d", i)
		checkWay(t, c, a.way)
		c.underWay = nil
		if !same(c, want) {
			t.Errorf("case %d: the node is %+v, want %+v", i, c.nodes[m.to], a.after)
		}
	}
}

// untouched are nodes to which, as they are, the message says nothing.
func untouched(list ...nodeState) []arrival {
	var cases []arrival
	for _, n := range list {
		cases = append(cases, arrival{before: n, after: n})
	}
	return cases
}

var (
	short = []api.Record{{Producer: 1, Seq: 1, Value: 5}}
	long  = []api.Record{{Producer: 2, Seq: 1, Value: 6}, {Producer: 2, Seq: 2, Value: 7}, {Producer: 1, Seq: 1, Value: 8}}
	none  = [api.Nodes]bool{}
	one   = [api.Nodes]bool{1: true}
	four  = [api.Nodes]bool{4: true}
	both  = [api.Nodes]bool{1: true, 4: true}
	knew  = [api.Nodes]int{1, 1, 1, 1, 1}
)

// sending is node 3 in the epoch 2, as far as it knows who has the log.
func sending(have [api.Nodes]bool) nodeState {
	return nodeState{up: true, follows: 2, given: 2, role: api.Sending, log: short, haveLog: have}
}

func TestP11Start(t *testing.T) {
	m := message{kind: api.Start, from: api.Master, to: 3, epoch: 2}
	reads := "Read:3>0@2/0 Read:3>1@2/0 Read:3>2@2/0"
	checkArrivals(t, m, []arrival{
		{nodeState{up: true}, nodeState{up: true, follows: 2, role: api.Reading}, reads},
		{nodeState{up: true, follows: 1, given: 1, log: short}, nodeState{up: true, follows: 2, given: 1, role: api.Reading, log: short}, reads},
		{nodeState{up: true, follows: 1, given: 1, role: api.Serving, log: short, known: knew}, nodeState{up: true, follows: 2, given: 1, role: api.Reading, log: short}, reads},
		{nodeState{up: true, follows: 1, given: 1, role: api.Sending, log: short, haveLog: both}, nodeState{up: true, follows: 2, given: 1, role: api.Reading, log: short}, reads},
		{nodeState{up: true, follows: 1, role: api.Reading}, nodeState{up: true, follows: 2, role: api.Reading}, reads},
		{nodeState{up: true, follows: 2}, nodeState{up: true, follows: 2, role: api.Reading}, reads},
		{nodeState{up: true, follows: 2, given: 1, log: short}, nodeState{up: true, follows: 2, given: 1, role: api.Reading, log: short}, reads},
		{nodeState{up: true, follows: 2, given: 1, role: api.Reading, log: short}, nodeState{up: true, follows: 2, given: 1, role: api.Reading, log: short}, reads},
		{sending(none), sending(none), "State:3>1@2/1 State:3>4@2/1"},
		{sending(one), sending(one), "State:3>4@2/1"},
		{sending(four), sending(four), "State:3>1@2/1"},
		{sending(both), sending(both), "Ready:3>-1@2/0"},
	})
	checkArrivals(t, m, untouched(
		nodeState{up: true, follows: 2, given: 2, log: short},
		nodeState{up: true, follows: 2, given: 2, role: api.Serving, log: short, known: knew},
		nodeState{up: true, follows: 3, given: 1},
		nodeState{up: true, follows: 3, given: 1, role: api.Reading},
		nodeState{up: true, follows: 3, given: 3, role: api.Sending, log: short},
		nodeState{up: true, follows: 3, given: 3, role: api.Serving, log: short},
		nodeState{follows: 1},
	))
}

func TestP11Read(t *testing.T) {
	m := message{kind: api.Read, from: 3, to: 1, epoch: 2}
	after := nodeState{up: true, follows: 2, given: 1, log: short}
	given := nodeState{up: true, follows: 2, given: 2, log: long}
	checkArrivals(t, m, []arrival{
		{nodeState{up: true}, nodeState{up: true, follows: 2}, "Log:1>3@2/0"},
		{nodeState{up: true, follows: 1, given: 1, log: short}, after, "Log:1>3@2/1"},
		{nodeState{up: true, follows: 1, given: 1, role: api.Reading, log: short}, after, "Log:1>3@2/1"},
		{nodeState{up: true, follows: 1, given: 1, role: api.Sending, log: short, haveLog: both}, after, "Log:1>3@2/1"},
		{nodeState{up: true, follows: 1, given: 1, role: api.Serving, log: short, known: knew}, after, "Log:1>3@2/1"},
		{after, after, "Log:1>3@2/1"},
		{given, given, "Log:1>3@2/3"},
	})
	checkArrivals(t, m, untouched(
		nodeState{up: true, follows: 3, given: 1, log: short},
		nodeState{up: true, follows: 3, given: 3, role: api.Serving, log: short, known: knew},
		nodeState{follows: 1, given: 1, log: short},
	))
}

// A leader that reads from itself goes on with what it is about.
func TestP11ReadOfItself(t *testing.T) {
	m := message{kind: api.Read, from: 3, to: 3, epoch: 2}
	for _, role := range []int{api.Idle, api.Reading, api.Sending, api.Serving} {
		n := nodeState{up: true, follows: 2, given: 1, role: role, log: short}
		checkArrivals(t, m, []arrival{{n, n, "Log:3>3@2/1"}})
	}
}

func TestP11Log(t *testing.T) {
	m := message{kind: api.Log, from: 1, to: 3, epoch: 2, n: len(long), records: long}
	after := nodeState{up: true, follows: 2, given: 2, role: api.Sending, log: long}
	states := "State:3>1@2/3 State:3>4@2/3"
	checkArrivals(t, m, []arrival{
		{nodeState{up: true, follows: 2, role: api.Reading}, after, states},
		{nodeState{up: true, follows: 2, given: 1, role: api.Reading, log: short}, after, states},
	})
	checkArrivals(t, m, untouched(
		nodeState{up: true, follows: 2, given: 1, log: short},
		nodeState{up: true, follows: 2, given: 2, role: api.Sending, log: short, haveLog: one},
		nodeState{up: true, follows: 2, given: 2, role: api.Serving, log: short, known: knew},
		nodeState{up: true, follows: 1, given: 1, role: api.Reading, log: short},
		nodeState{up: true, follows: 3, given: 1, role: api.Reading, log: short},
		nodeState{follows: 2, given: 1, log: short},
	))
	// A log without records takes the place of one with some.
	m = message{kind: api.Log, from: 1, to: 3, epoch: 2}
	checkArrivals(t, m, []arrival{{
		nodeState{up: true, follows: 2, given: 1, role: api.Reading, log: short},
		nodeState{up: true, follows: 2, given: 2, role: api.Sending},
		"State:3>1@2/0 State:3>4@2/0",
	}})
}

func TestP11State(t *testing.T) {
	m := message{kind: api.State, from: 3, to: 1, epoch: 2, n: len(short), records: short}
	after := nodeState{up: true, follows: 2, given: 2, log: short}
	given := nodeState{up: true, follows: 2, given: 2, log: long}
	have := "Have:1>3@2/0"
	checkArrivals(t, m, []arrival{
		{nodeState{up: true}, after, have},
		{nodeState{up: true, follows: 1, given: 1, log: long}, after, have},
		{nodeState{up: true, follows: 1, given: 1, role: api.Reading, log: long}, after, have},
		{nodeState{up: true, follows: 1, given: 1, role: api.Sending, log: long, haveLog: both}, after, have},
		{nodeState{up: true, follows: 1, given: 1, role: api.Serving, log: long, known: knew}, after, have},
		{nodeState{up: true, follows: 2}, after, have},
		{nodeState{up: true, follows: 2, given: 1, log: long}, after, have},
		{given, given, have},
	})
	checkArrivals(t, m, untouched(
		nodeState{up: true, follows: 3, given: 1, log: long},
		nodeState{up: true, follows: 3, given: 3, log: long},
		nodeState{up: true, follows: 3, given: 1, role: api.Reading, log: long},
		nodeState{follows: 1, given: 1, log: long},
	))
}

func TestP11Have(t *testing.T) {
	m := message{kind: api.Have, from: 4, to: 3, epoch: 2}
	checkArrivals(t, m, []arrival{
		{sending(none), sending(four), ""},
		{sending(four), sending(four), ""},
		{sending(one), sending(both), "Ready:3>-1@2/0"},
		{sending(both), sending(both), "Ready:3>-1@2/0"},
	})
	checkArrivals(t, m, untouched(
		nodeState{up: true, follows: 2, given: 1, log: short},
		nodeState{up: true, follows: 2, given: 2, log: short},
		nodeState{up: true, follows: 2, given: 1, role: api.Reading, log: short},
		nodeState{up: true, follows: 2, given: 2, role: api.Serving, log: short},
		nodeState{up: true, follows: 1, given: 1, role: api.Sending, log: short, haveLog: one},
		nodeState{up: true, follows: 3, given: 3, role: api.Sending, log: short, haveLog: one},
		nodeState{follows: 2, given: 2, log: short},
	))
}

func TestP11Serve(t *testing.T) {
	m := message{kind: api.Serve, from: api.Master, to: 3, epoch: 2}
	checkArrivals(t, m, []arrival{{
		nodeState{up: true, follows: 2, given: 2, role: api.Sending, log: long, haveLog: both},
		nodeState{up: true, follows: 2, given: 2, role: api.Serving, log: long, known: [api.Nodes]int{1: 3, 4: 3}},
		"",
	}})
	checkArrivals(t, m, untouched(
		nodeState{up: true, follows: 2, given: 1, log: short},
		nodeState{up: true, follows: 2, given: 2, log: short},
		nodeState{up: true, follows: 2, given: 1, role: api.Reading, log: short},
		nodeState{up: true, follows: 2, given: 2, role: api.Serving, log: long, known: [api.Nodes]int{1: 1, 4: 2}},
		nodeState{up: true, follows: 1, given: 1, role: api.Sending, log: short, haveLog: both},
		nodeState{up: true, follows: 3, given: 3, role: api.Sending, log: short, haveLog: both},
		nodeState{follows: 2, given: 2, log: short},
	))
}

// Where the receiver follows a greater epoch than the message's, nothing happens, whatever the message.
func TestP11FollowsAGreaterOne(t *testing.T) {
	for kind := api.Start; kind <= api.Ack; kind++ {
		if kind == api.Ready {
			continue
		}
		for _, role := range []int{api.Idle, api.Reading, api.Sending, api.Serving} {
			for given := 0; given <= 3; given++ {
				m := message{kind: kind, from: 4, to: 3, epoch: 2, n: 1, records: []api.Record{rec(3, 1, 1)}}
				checkArrivals(t, m, untouched(nodeState{up: true, follows: 3, given: given, role: role, log: short, haveLog: one}))
			}
		}
	}
}

func TestP11RecordsGoAlong(t *testing.T) {
	c := New()
	checkProduce(t, c, 2, 1, 4, 0, false)
	checkProduce(t, c, 1, 1, 5, 1, false)
	deliverAll(t, c)
	reconfigure(t, c, 28, 3)
	deliver(t, c, 0, 0)
	drop(t, c, 0, 0)
	want := []api.Record{rec(2, 1, 4), rec(1, 1, 5)}
	if !reflect.DeepEqual(c.underWay[0].records, want) {
		t.Errorf("the Log: %+v", c.underWay[0])
	}
	deliver(t, c, 0)
	checkWay(t, c, "State:3>2@2/2 State:3>4@2/2")
	for i, m := range c.underWay {
		if !reflect.DeepEqual(m.records, want) {
			t.Errorf("State %d: %+v", i, m)
		}
	}
	deliverAll(t, c)
	for _, node := range []int{2, 3, 4} {
		if !reflect.DeepEqual(c.nodes[node].log, want) {
			t.Errorf("node %d: %v", node, c.nodes[node].log)
		}
	}
	checkFetch(t, c, 3, 0, rec(2, 1, 4), api.OK)
	checkFetch(t, c, 3, 1, rec(1, 1, 5), api.OK)
}

// A leader whose own epoch is followed by one that it leads too stops serving, and reads from itself as from others.
func TestP11SameLeader(t *testing.T) {
	c := New()
	checkProduce(t, c, 1, 1, 5, 0, false)
	drop(t, c, 0, 0)
	reconfigure(t, c, 7, 0)
	deliver(t, c, 0)
	checkWay(t, c, "Read:0>0@2/0 Read:0>1@2/0 Read:0>2@2/0")
	checkNode(t, c, 0, api.Node{Up: true, Epoch: 2, Installed: 1, Role: api.Reading, Len: 1})
	checkRefused(t, c, 0, 1, 1, 5, api.ErrLeader)
	checkFetch(t, c, 0, 0, api.Record{}, api.ErrLeader)
	deliver(t, c, 0, 2)
	checkWay(t, c, "Read:0>1@2/0 Read:0>2@2/0 State:0>1@2/1 State:0>2@2/1")
	deliverAll(t, c)
	// What was not done in the epoch 1 is done now, as all members have it.
	checkNode(t, c, 0, api.Node{Up: true, Epoch: 2, Installed: 2, Role: api.Serving, Len: 1, Done: 1})
	checkProduce(t, c, 1, 1, 5, 0, true)
	checkProduce(t, c, 1, 2, 6, 1, false)
	checkWay(t, c, "Append:0>1@2/1 Append:0>2@2/1")
	deliver(t, c, 0)
	checkWay(t, c, "Append:0>2@2/1 Ack:1>0@2/2")
	deliver(t, c, 1)
	checkProduce(t, c, 1, 2, 6, 1, false)
	checkWay(t, c, "Append:0>2@2/1 Append:0>2@2/1")
	deliverAll(t, c)
	checkProduce(t, c, 1, 2, 6, 1, true)
}

// The first answer is the log; a record that this one lacks was not done, and is gone from all members.
func TestP11FirstAnswerCounts(t *testing.T) {
	c := New()
	checkProduce(t, c, 1, 1, 5, 0, false)
	deliverAll(t, c)
	checkProduce(t, c, 1, 2, 6, 1, false)
	deliver(t, c, 0) // node 2 lacks the second record
	checkWay(t, c, "Append:0>2@1/1 Ack:1>0@1/2")
	reconfigure(t, c, 3, 1)
	deliver(t, c, 2)
	deliver(t, c, 4)
	checkWay(t, c, "Append:0>2@1/1 Ack:1>0@1/2 Read:1>0@2/0 Read:1>1@2/0 Log:2>1@2/1")
	deliver(t, c, 4)
	checkNode(t, c, 1, api.Node{Up: true, Epoch: 2, Installed: 2, Role: api.Sending, Len: 1})
	checkWay(t, c, "Append:0>2@1/1 Ack:1>0@1/2 Read:1>0@2/0 Read:1>1@2/0 State:1>0@2/1")
	deliver(t, c, 0, 0) // of the epoch 1: node 2 follows 2 now, and node 0 is not told enough
	checkNode(t, c, 2, api.Node{Up: true, Epoch: 2, Installed: 1, Role: api.Idle, Len: 1})
	checkNode(t, c, 0, api.Node{Up: true, Epoch: 1, Installed: 1, Role: api.Serving, Len: 2, Done: 1})
	deliver(t, c, 0, 0)
	checkWay(t, c, "State:1>0@2/1 Log:0>1@2/2 Log:1>1@2/1")
	deliverAll(t, c)
	checkConfig(t, c, 2, 3, 1, 2)
	checkNode(t, c, 0, api.Node{Up: true, Epoch: 2, Installed: 2, Role: api.Idle, Len: 1})
	checkNode(t, c, 1, api.Node{Up: true, Epoch: 2, Installed: 2, Role: api.Serving, Len: 1, Done: 1})
	checkProduceAt(t, c, 1, 3, 1, 9, 1, false)
	deliverAll(t, c)
	checkFetch(t, c, 1, 1, rec(3, 1, 9), api.OK)
}

// A State that comes late finds the log longer than it was, and must not make it shorter.
func TestP11LateState(t *testing.T) {
	c := New()
	reconfigure(t, c, 24, 3)
	deliver(t, c, 0, 0, 2)
	checkWay(t, c, "Read:3>1@2/0 Read:3>2@2/0 State:3>4@2/0")
	c.Twice(2)
	drop(t, c, 0, 0)
	deliver(t, c, 0, 1, 1, 1)
	checkWay(t, c, "State:3>4@2/0")
	checkProduceAt(t, c, 3, 1, 1, 5, 0, false)
	deliver(t, c, 1, 1)
	checkWay(t, c, "State:3>4@2/0")
	checkFetch(t, c, 3, 0, rec(1, 1, 5), api.OK)
	deliver(t, c, 0)
	checkWay(t, c, "Have:4>3@2/0")
	checkNode(t, c, 4, api.Node{Up: true, Epoch: 2, Installed: 2, Role: api.Idle, Len: 1})
	deliver(t, c, 0)
	checkWay(t, c, "")
	checkNode(t, c, 3, api.Node{Up: true, Epoch: 2, Installed: 2, Role: api.Serving, Len: 1, Done: 1})
}

func TestP11Alone(t *testing.T) {
	c := New()
	checkProduce(t, c, 1, 1, 5, 0, false)
	deliverAll(t, c)
	reconfigure(t, c, 16, 4)
	deliver(t, c, 0, 0)
	drop(t, c, 0, 0)
	deliver(t, c, 0)
	checkWay(t, c, "Ready:4>-1@2/0")
	checkNode(t, c, 4, api.Node{Up: true, Epoch: 2, Installed: 2, Role: api.Sending, Len: 1})
	drop(t, c, 0)
	remind(t, c)
	deliver(t, c, 0)
	checkWay(t, c, "Ready:4>-1@2/0")
	deliver(t, c, 0, 0)
	checkWay(t, c, "")
	checkNode(t, c, 4, api.Node{Up: true, Epoch: 2, Installed: 2, Role: api.Serving, Len: 1, Done: 1})
	checkProduceAt(t, c, 4, 2, 1, 6, 1, true)
	checkWay(t, c, "")
	checkFetch(t, c, 4, 1, rec(2, 1, 6), api.OK)
}

// Lost messages of each kind: a reminder has the leader go on where it was, and sends no more than is lacking.
func TestP11RemindedAtEveryStep(t *testing.T) {
	c := New()
	moveTo(t, c, 3, 1)
	steps := []struct {
		way  string
		next int // the message that comes; the others are lost
	}{
		{"Start:-1>3@3/0", 0},
		{"Read:3>0@3/0 Read:3>1@3/0", 1},
		{"Log:1>3@3/0", 0},
		{"State:3>2@3/0 State:3>4@3/0", 1},
		{"Have:4>3@3/0", 0},
		{"", -1},
		{"Start:-1>3@3/0", 0},
		{"State:3>2@3/0", 0},
		{"Have:2>3@3/0", 0},
		{"Ready:3>-1@3/0", -1},
		{"Start:-1>3@3/0", 0},
		{"Ready:3>-1@3/0", 0},
		{"Serve:-1>3@3/0", 0},
	}
	reconfigure(t, c, 28, 3)
	for i, s := range steps {
		checkWay(t, c, s.way)
		for k := len(c.underWay) - 1; k >= 0; k-- {
			if k != s.next {
				drop(t, c, k)
			}
		}
		if s.next < 0 {
			remind(t, c)
			continue
		}
		if i != len(steps)-1 {
			checkConfigActive(t, c, s.way)
		}
		deliver(t, c, 0)
	}
	checkWay(t, c, "")
	checkConfig(t, c, 3, 28, 3, 3)
	checkNode(t, c, 3, api.Node{Up: true, Epoch: 3, Installed: 3, Role: api.Serving})
}

// checkConfigActive tells that the epoch 2 is active until the Ready has come.
func checkConfigActive(t *testing.T, c *Cluster, step string) {
	t.Helper()
	if g, _ := c.Config(); g.Active != 2 {
		t.Errorf("at %q: %+v", step, g)
	}
}

// A leader that goes down while it is Reading may begin again; one that was given the log may not.
func TestP11LeaderGoesDown(t *testing.T) {
	c := New()
	reconfigure(t, c, 9, 3)
	deliver(t, c, 0)
	crash(t, c, 3)
	checkNode(t, c, 3, api.Node{Epoch: 2, Role: api.Idle})
	deliver(t, c, 0)
	checkWay(t, c, "Read:3>1@2/0 Read:3>2@2/0 Log:0>3@2/0")
	c.Twice(2)
	deliver(t, c, 3) // lost
	restart(t, c, 3)
	c.Twice(2)
	deliver(t, c, 3) // it is not Reading any more
	checkNode(t, c, 3, api.Node{Up: true, Epoch: 2, Role: api.Idle})
	checkWay(t, c, "Read:3>1@2/0 Read:3>2@2/0 Log:0>3@2/0")
	remind(t, c)
	deliver(t, c, 3)
	drop(t, c, 5, 4, 3)
	checkNode(t, c, 3, api.Node{Up: true, Epoch: 2, Role: api.Reading})
	deliver(t, c, 2) // an answer to what it asked ahead of the crash does as well
	checkNode(t, c, 3, api.Node{Up: true, Epoch: 2, Installed: 2, Role: api.Sending})
	checkWay(t, c, "Read:3>1@2/0 Read:3>2@2/0 State:3>0@2/0")
	crash(t, c, 3)
	checkNode(t, c, 3, api.Node{Epoch: 2, Installed: 2, Role: api.Idle})
	deliver(t, c, 2)
	restart(t, c, 3)
	checkWay(t, c, "Read:3>1@2/0 Read:3>2@2/0 Have:0>3@2/0")
	deliver(t, c, 2)
	remind(t, c)
	deliver(t, c, 2)
	checkWay(t, c, "Read:3>1@2/0 Read:3>2@2/0")
	checkConfig(t, c, 2, 9, 3, 1)
	moveTo(t, c, 9, 3)
	checkConfig(t, c, 3, 9, 3, 3)
	checkNode(t, c, 3, api.Node{Up: true, Epoch: 3, Installed: 3, Role: api.Serving})
}

// A Serve that comes to a leader that was down since says nothing to it, nor does one that comes again.
func TestP11ServeAfterACrash(t *testing.T) {
	c := New()
	reconfigure(t, c, 9, 3)
	for len(c.underWay) != 1 || c.underWay[0].kind != api.Serve {
		deliver(t, c, 0)
	}
	c.Twice(0)
	c.Twice(0)
	deliver(t, c, 0)
	checkProduceAt(t, c, 3, 1, 1, 5, 0, false)
	deliver(t, c, 0)
	checkNode(t, c, 3, api.Node{Up: true, Epoch: 2, Installed: 2, Role: api.Serving, Len: 1, Done: 0})
	crash(t, c, 3)
	restart(t, c, 3)
	deliver(t, c, 0)
	checkNode(t, c, 3, api.Node{Up: true, Epoch: 2, Installed: 2, Role: api.Idle, Len: 1})
	checkWay(t, c, "Append:3>0@2/0")
}

// An epoch that is overtaken half way: its leader stops where it is, and a leader of both begins anew.
func TestP11Overtaken(t *testing.T) {
	c := New()
	checkProduce(t, c, 1, 1, 5, 0, false)
	deliverAll(t, c)
	reconfigure(t, c, 24, 3)
	deliver(t, c, 0, 0)
	drop(t, c, 0, 0)
	deliver(t, c, 0)
	checkWay(t, c, "State:3>4@2/1")
	reconfigure(t, c, 25, 3)
	deliver(t, c, 1)
	checkWay(t, c, "State:3>4@2/1 Read:3>0@3/0 Read:3>1@3/0 Read:3>2@3/0")
	checkNode(t, c, 3, api.Node{Up: true, Epoch: 3, Installed: 2, Role: api.Reading, Len: 1})
	deliver(t, c, 0, 3)
	checkWay(t, c, "Read:3>0@3/0 Read:3>1@3/0 Read:3>2@3/0")
	checkNode(t, c, 4, api.Node{Up: true, Epoch: 2, Installed: 2, Role: api.Idle, Len: 1})
	deliver(t, c, 0, 0, 0, 0)
	checkWay(t, c, "Log:1>3@3/1 Log:2>3@3/1 State:3>0@3/1 State:3>4@3/1")
	deliverAll(t, c)
	checkConfig(t, c, 3, 25, 3, 3)
	checkNode(t, c, 4, api.Node{Up: true, Epoch: 3, Installed: 3, Role: api.Idle, Len: 1})
	checkFetch(t, c, 3, 0, rec(1, 1, 5), api.OK)
}

// A full list loses what a node sends to the later members, and the reminder makes up for it.
func TestP11NoRoom(t *testing.T) {
	c := New()
	for i := range api.MaxMessages / 2 {
		checkProduce(t, c, 1, i+1, i, i, false)
	}
	drop(t, c, 0)
	reconfigure(t, c, 31, 4)
	deliver(t, c, api.MaxMessages-1)
	if len(c.underWay) != api.MaxMessages || c.underWay[api.MaxMessages-1].to != 0 || c.underWay[api.MaxMessages-1].kind != api.Read {
		t.Errorf("%d are under way, the last is %+v", len(c.underWay), c.underWay[api.MaxMessages-1])
	}
	deliver(t, c, api.MaxMessages-1, api.MaxMessages-1)
	last := c.underWay[len(c.underWay)-1]
	if len(c.underWay) != api.MaxMessages || last.kind != api.State || last.to != 0 || last.n != 25 {
		t.Errorf("%d are under way, the last is %+v", len(c.underWay), last)
	}
	deliverAll(t, c)
	checkConfig(t, c, 2, 31, 4, 1)
	remind(t, c)
	deliverAll(t, c)
	checkConfig(t, c, 2, 31, 4, 2)
	checkFetch(t, c, 4, 24, rec(1, 25, 24), api.OK)
}

// What a node appends is not seen in another one's log, nor in a message that is under way.
func TestP11LogsApart(t *testing.T) {
	c := New()
	for i := range 5 {
		checkProduce(t, c, 1, i+1, i, i, false)
		deliverAll(t, c)
	}
	reconfigure(t, c, 31, 0)
	for range 9 {
		deliver(t, c, 0)
		checkApart(t, c)
	}
	c.Twice(len(c.underWay) - 1)
	for len(c.underWay) > 0 {
		deliver(t, c, 0)
		checkApart(t, c)
	}
	checkProduce(t, c, 2, 1, 9, 5, false)
	drop(t, c, 0, 0, 0, 0)
	reconfigure(t, c, 30, 1)
	deliver(t, c, 0, 3)
	checkWay(t, c, "Read:1>0@3/0 Read:1>1@3/0 Read:1>2@3/0 Read:1>4@3/0 Log:3>1@3/5")
	drop(t, c, 0, 0, 0, 0)
	deliverAll(t, c)
	checkProduceAt(t, c, 1, 3, 1, 8, 5, false)
	deliverAll(t, c)
	for node := 1; node < api.Nodes; node++ {
		if log := c.nodes[node].log; len(log) != 6 || log[5] != rec(3, 1, 8) {
			t.Errorf("node %d: %v", node, log)
		}
	}
	if log := c.nodes[0].log; len(log) != 6 || log[5] != rec(2, 1, 9) {
		t.Errorf("node 0: %v", log)
	}
}

// checkApart tells that no log shares its memory with another one or with a message.
func checkApart(t *testing.T, c *Cluster) {
	t.Helper()
	for i, n := range c.nodes {
		room := n.log[:cap(n.log)]
		if len(room) == 0 {
			continue
		}
		for k, other := range c.nodes {
			if k != i && cap(other.log) > 0 && &other.log[:cap(other.log)][0] == &room[0] {
				t.Fatalf("the nodes %d and %d share a log", i, k)
			}
		}
		for _, m := range c.underWay {
			if cap(m.records) > 0 && &m.records[:cap(m.records)][0] == &room[0] {
				t.Fatalf("node %d shares its log with %+v", i, m)
			}
		}
	}
}

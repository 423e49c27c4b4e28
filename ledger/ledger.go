// Package ledger: a log of records that several nodes keep: see DOC.md.
package ledger

import "ledger/api"

// Cluster is the nodes, the master, and what is under way between them.
type Cluster struct {
	nodes    [api.Nodes]nodeState
	epochs   []epochState // the epoch e stands at e-1
	active   int          // the number of the active epoch
	underWay []message
}

// New makes a cluster (P3).
func New() *Cluster {
	c := &Cluster{active: 1}
	first := epochState{members: 1<<0 + 1<<1 + 1<<2, leader: 0}
	c.epochs = append(c.epochs, first)
	for i := range c.nodes {
		c.nodes[i].up = true
		if isAmong(first.members, i) {
			c.nodes[i].follows = 1
			c.nodes[i].given = 1
		}
	}
	c.nodes[first.leader].role = api.Serving
	return c
}

// Produce writes a record (P4).
func (c *Cluster) Produce(node int, producer int, seq int, value int) (int, bool, api.Errno) {
	if c == nil {
		return 0, false, api.ErrNil
	}
	refusal := c.refusalToWrite(node, producer, seq, value)
	if refusal != api.OK {
		return 0, false, refusal
	}
	log := c.nodes[node].log
	at := offsetOf(log, producer, seq)
	if at >= 0 {
		isDone := at < c.done(node)
		if !isDone {
			c.sendWhatIsLacked(node)
		}
		return at, isDone, api.OK
	}
	if seq > 1 && offsetOf(log, producer, seq-1) < 0 {
		return 0, false, api.ErrGap
	}
	if len(log) >= api.MaxLog {
		return 0, false, api.ErrFull
	}
	at = len(log)
	c.write(node, api.Record{Producer: producer, Seq: seq, Value: value})
	return at, at < c.done(node), api.OK
}

// Fetch reads a record (P5).
func (c *Cluster) Fetch(node int, offset int) (api.Record, api.Errno) {
	if c == nil {
		return api.Record{}, api.ErrNil
	}
	refusal := c.refusalOfNode(node)
	if refusal != api.OK {
		return api.Record{}, refusal
	}
	if c.nodes[node].role != api.Serving {
		return api.Record{}, api.ErrLeader
	}
	if offset < 0 {
		return api.Record{}, api.ErrArg
	}
	if offset >= c.done(node) {
		return api.Record{}, api.ErrEmpty
	}
	return c.nodes[node].log[offset], api.OK
}

// Messages tells what is under way (P6).
func (c *Cluster) Messages() ([]api.Message, api.Errno) {
	if c == nil {
		return nil, api.ErrNil
	}
	list := make([]api.Message, 0, len(c.underWay))
	for _, m := range c.underWay {
		list = append(list, api.Message{Kind: m.kind, From: m.from, To: m.to, Epoch: m.epoch, N: m.n})
	}
	return list, api.OK
}

// Deliver lets a message arrive (P6).
func (c *Cluster) Deliver(i int) api.Errno {
	if c == nil {
		return api.ErrNil
	}
	if !c.isUnderWay(i) {
		return api.ErrMessage
	}
	// It leaves the list first: the answer to it may need its room.
	m := c.takeOut(i)
	c.takeIn(m)
	return api.OK
}

// Drop loses a message (P6).
func (c *Cluster) Drop(i int) api.Errno {
	if c == nil {
		return api.ErrNil
	}
	if !c.isUnderWay(i) {
		return api.ErrMessage
	}
	c.takeOut(i)
	return api.OK
}

// Twice doubles a message (P6).
func (c *Cluster) Twice(i int) api.Errno {
	if c == nil {
		return api.ErrNil
	}
	if !c.isUnderWay(i) {
		return api.ErrMessage
	}
	again := c.underWay[i]
	c.send(again)
	return api.OK
}

// Node tells what can be seen of a node (P7).
func (c *Cluster) Node(node int) (api.Node, api.Errno) {
	if c == nil {
		return api.Node{}, api.ErrNil
	}
	if !isNode(node) {
		return api.Node{}, api.ErrNode
	}
	n := c.nodes[node]
	seen := api.Node{Up: n.up, Epoch: n.follows, Installed: n.given, Role: n.role, Len: len(n.log)}
	if n.role == api.Serving {
		seen.Done = c.done(node)
	}
	return seen, api.OK
}

// Crash takes a node down (P9).
func (c *Cluster) Crash(node int) api.Errno {
	if c == nil {
		return api.ErrNil
	}
	refusal := c.refusalOfNode(node)
	if refusal != api.OK {
		return refusal
	}
	c.goDown(node)
	return api.OK
}

// Restart brings a node up (P9).
func (c *Cluster) Restart(node int) api.Errno {
	if c == nil {
		return api.ErrNil
	}
	if !isNode(node) {
		return api.ErrNode
	}
	if c.nodes[node].up {
		return api.ErrUp
	}
	c.nodes[node].up = true
	return api.OK
}

// Reconfigure begins an epoch (P10).
func (c *Cluster) Reconfigure(members int, leader int) api.Errno {
	if c == nil {
		return api.ErrNil
	}
	if !areMembers(members) || !isAmong(members, leader) {
		return api.ErrMembers
	}
	if len(c.epochs) >= api.MaxEpochs {
		return api.ErrEpochs
	}
	c.epochs = append(c.epochs, epochState{members: members, leader: leader, previous: c.active})
	c.sendToLeader(api.Start)
	return api.OK
}

// Remind tells the newest epoch's leader again (P10).
func (c *Cluster) Remind() api.Errno {
	if c == nil {
		return api.ErrNil
	}
	if c.active == len(c.epochs) {
		return api.ErrActive
	}
	c.sendToLeader(api.Start)
	return api.OK
}

// Config tells of the newest epoch (P10).
func (c *Cluster) Config() (api.Config, api.Errno) {
	if c == nil {
		return api.Config{}, api.ErrNil
	}
	newest := len(c.epochs)
	e := c.epoch(newest)
	return api.Config{Epoch: newest, Members: e.members, Leader: e.leader, Active: c.active}, api.OK
}

package ledger

import "ledger/api"

// nodeState is what a node holds.
type nodeState struct {
	up      bool
	follows int // the epoch that it follows, 0: none
	given   int // the last epoch whose log it was given, 0: none
	role    int
	log     []api.Record
	haveLog [api.Nodes]bool // while it is Sending: which other members are known to have the log
	known   [api.Nodes]int  // while it is Serving: how many records each other member is known to have
}

func isNode(node int) bool {
	return node >= 0 && node < api.Nodes
}

func isRecord(producer int, seq int, value int) bool {
	if producer < 1 || producer > api.Producers {
		return false
	}
	if seq < 1 || seq > api.MaxSeq {
		return false
	}
	return value >= 0 && value <= api.MaxValue
}

// refusalOfNode is why a node cannot be asked anything, or OK.
func (c *Cluster) refusalOfNode(node int) api.Errno {
	if !isNode(node) {
		return api.ErrNode
	}
	if !c.nodes[node].up {
		return api.ErrDown
	}
	return api.OK
}

// refusalToWrite is why a node cannot be asked to write this, whatever its log is, or OK.
func (c *Cluster) refusalToWrite(node int, producer int, seq int, value int) api.Errno {
	refusal := c.refusalOfNode(node)
	if refusal != api.OK {
		return refusal
	}
	if !isRecord(producer, seq, value) {
		return api.ErrArg
	}
	if c.nodes[node].role != api.Serving {
		return api.ErrLeader
	}
	return api.OK
}

// goDown makes the node anew of what outlasts a crash, so that it comes up leading nothing and knowing of nobody.
func (c *Cluster) goDown(node int) {
	n := c.nodes[node]
	c.nodes[node] = nodeState{up: false, role: api.Idle, follows: n.follows, given: n.given, log: n.log}
}

// follow leaves behind what the node knew as a leader: it holds for the epoch that it followed before alone.
func (c *Cluster) follow(node int, e int, role int) {
	n := c.nodes[node]
	c.nodes[node] = nodeState{up: n.up, role: role, follows: e, given: n.given, log: n.log}
}

// offsetOf is where the record of this producer with this Seq stands in the log, or -1.
func offsetOf(log []api.Record, producer int, seq int) int {
	for i, r := range log {
		if r.Producer == producer && r.Seq == seq {
			return i
		}
	}
	return -1
}

// isOtherMember tells whether other, a node, keeps the log beside this node in the epoch that this node follows.
func (c *Cluster) isOtherMember(node int, other int) bool {
	if other == node {
		return false
	}
	e := c.epoch(c.nodes[node].follows)
	return isAmong(e.members, other)
}

// done is how many records every member has, as far as this node, which is Serving, was told.
func (c *Cluster) done(node int) int {
	least := len(c.nodes[node].log)
	for other, count := range c.nodes[node].known {
		if count < least && c.isOtherMember(node, other) {
			least = count
		}
	}
	return least
}

// write puts a record at the end of a leader's log and sends it to the other members.
func (c *Cluster) write(node int, record api.Record) {
	at := len(c.nodes[node].log)
	c.nodes[node].log = append(c.nodes[node].log, record)
	for other := range c.nodes {
		if c.isOtherMember(node, other) {
			c.sendAppend(node, other, at)
		}
	}
}

func (c *Cluster) sendWhatIsLacked(node int) {
	for other := range c.nodes {
		if c.isOtherMember(node, other) {
			c.sendFirstLacked(node, other)
		}
	}
}

// sendFirstLacked sends the first record that the other one is not known to have, if there is one.
func (c *Cluster) sendFirstLacked(node int, other int) {
	c.sendAppend(node, other, c.nodes[node].known[other])
}

// sendAppend sends the record at this offset, if the log has one there.
func (c *Cluster) sendAppend(node int, other int, at int) {
	log := c.nodes[node].log
	if at < 0 || at >= len(log) {
		return
	}
	records := []api.Record{log[at]}
	c.send(message{kind: api.Append, from: node, to: other, epoch: c.nodes[node].follows, n: at, records: records})
}

package ledger

import "ledger/api"

// epochState is what the master knows of an epoch.
type epochState struct {
	members  int // the sum of 1<<n over them
	leader   int
	previous int // the epoch that was active when this one began, 0: none
}

func areMembers(members int) bool {
	return members > 0 && members < 1<<api.Nodes
}

func isAmong(members int, node int) bool {
	if !isNode(node) {
		return false
	}
	return members>>node&1 == 1
}

// epoch is what is known of the epoch e; of a number that no epoch has, one without members.
func (c *Cluster) epoch(e int) epochState {
	if e < 1 || e > len(c.epochs) {
		return epochState{}
	}
	return c.epochs[e-1]
}

// sendToLeader sends a message of the master's to the newest epoch's leader.
func (c *Cluster) sendToLeader(kind int) {
	newest := len(c.epochs)
	e := c.epoch(newest)
	c.send(message{kind: kind, from: api.Master, to: e.leader, epoch: newest})
}

func (c *Cluster) takeInReady(m message) {
	// An epoch that was overtaken must not serve: the newest one does not read what would be written in it.
	if m.epoch != len(c.epochs) {
		return
	}
	c.active = m.epoch
	c.sendToLeader(api.Serve)
}

package ledger

import "ledger/api"

// message is what is under way. Its records are shared by its doubles, so nothing writes into them.
type message struct {
	kind, from, to, epoch, n int
	records                  []api.Record
}

func (c *Cluster) isUnderWay(i int) bool {
	return i >= 0 && i < len(c.underWay)
}

// send puts a message at the end of the list; a list that is full loses it.
func (c *Cluster) send(m message) {
	if len(c.underWay) >= api.MaxMessages {
		return
	}
	c.underWay = append(c.underWay, m)
}

// takeOut needs an i that is under way. The list is made anew so that nothing of the message stays behind.
func (c *Cluster) takeOut(i int) message {
	taken := c.underWay[i]
	rest := make([]message, 0, len(c.underWay))
	for k, m := range c.underWay {
		if k != i {
			rest = append(rest, m)
		}
	}
	c.underWay = rest
	return taken
}

// takeIn is a message's arrival at its receiver (P8, P11).
func (c *Cluster) takeIn(m message) {
	if m.to == api.Master {
		c.takeInReady(m) // no other kind goes to the master
		return
	}
	if !isNode(m.to) || !c.nodes[m.to].up || c.nodes[m.to].follows > m.epoch {
		return
	}
	switch m.kind {
	case api.Start:
		c.takeInStart(m)
	case api.Read:
		c.takeInRead(m)
	case api.Log:
		c.takeInLog(m)
	case api.State:
		c.takeInState(m)
	case api.Have:
		c.takeInHave(m)
	case api.Serve:
		c.takeInServe(m)
	case api.Append:
		c.takeInAppend(m)
	case api.Ack:
		c.takeInAck(m)
	}
}

func (c *Cluster) takeInAppend(m message) {
	n := c.nodes[m.to]
	if n.follows != m.epoch || n.given != m.epoch || n.role != api.Idle {
		return
	}
	if m.n == len(n.log) {
		c.nodes[m.to].log = append(c.nodes[m.to].log, m.records...)
	}
	// The answer goes out even if nothing was put: it tells the leader what is lacking here.
	c.send(message{kind: api.Ack, from: m.to, to: m.from, epoch: m.epoch, n: len(c.nodes[m.to].log)})
}

func (c *Cluster) takeInAck(m message) {
	n := c.nodes[m.to]
	if n.follows != m.epoch || n.role != api.Serving || !isNode(m.from) {
		return
	}
	// An older answer can come behind a newer one and would tell too few.
	if m.n > n.known[m.from] {
		c.nodes[m.to].known[m.from] = m.n
	}
	c.sendFirstLacked(m.to, m.from)
}

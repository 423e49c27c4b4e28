package ledger

import "ledger/api"

// How the log goes over from the members of one epoch to those of another (P11).

func (c *Cluster) takeInStart(m message) {
	n := c.nodes[m.to]
	// A leader that went down while it was Reading may read again; one that had the log may have handed it on, and may not.
	if n.follows < m.epoch || n.role == api.Idle && n.given < m.epoch {
		c.follow(m.to, m.epoch, api.Reading)
	}
	switch c.nodes[m.to].role {
	case api.Reading:
		c.sendReads(m.to)
	case api.Sending:
		c.handOn(m.to)
	}
}

func (c *Cluster) sendReads(node int) {
	number := c.nodes[node].follows
	e := c.epoch(number)
	before := c.epoch(e.previous)
	for other := range c.nodes {
		if isAmong(before.members, other) {
			c.send(message{kind: api.Read, from: node, to: other, epoch: number})
		}
	}
}

func (c *Cluster) takeInRead(m message) {
	if c.nodes[m.to].follows < m.epoch {
		c.follow(m.to, m.epoch, api.Idle)
	}
	c.sendLog(api.Log, m.to, m.from)
}

func (c *Cluster) takeInLog(m message) {
	n := c.nodes[m.to]
	if n.follows != m.epoch || n.role != api.Reading {
		return
	}
	c.takeLog(m)
	c.nodes[m.to].role = api.Sending
	c.handOn(m.to)
}

func (c *Cluster) takeInState(m message) {
	if c.nodes[m.to].follows < m.epoch {
		c.follow(m.to, m.epoch, api.Idle)
	}
	// One that comes again, or late, must not undo what was appended since.
	if c.nodes[m.to].given < m.epoch {
		c.takeLog(m)
	}
	c.send(message{kind: api.Have, from: m.to, to: m.from, epoch: m.epoch})
}

func (c *Cluster) takeInHave(m message) {
	n := c.nodes[m.to]
	if n.follows != m.epoch || n.role != api.Sending || !isNode(m.from) {
		return
	}
	c.nodes[m.to].haveLog[m.from] = true
	if c.allHaveLog(m.to) {
		c.sendReady(m.to)
	}
}

func (c *Cluster) takeInServe(m message) {
	n := c.nodes[m.to]
	if n.follows != m.epoch || n.role != api.Sending {
		return
	}
	c.follow(m.to, m.epoch, api.Serving)
	for other := range c.nodes {
		if c.isOtherMember(m.to, other) {
			c.nodes[m.to].known[other] = len(n.log)
		}
	}
}

// takeLog makes a log of its own of the message's records: its doubles still hold them.
func (c *Cluster) takeLog(m message) {
	c.nodes[m.to].log = append([]api.Record{}, m.records...)
	c.nodes[m.to].given = m.epoch
}

// sendLog sends all records of a node's log as a Log or State.
func (c *Cluster) sendLog(kind int, node int, other int) {
	records := append([]api.Record{}, c.nodes[node].log...)
	c.send(message{kind: kind, from: node, to: other, epoch: c.nodes[node].follows, n: len(records), records: records})
}

// handOn sends the log to the other members that are not known to have it, or tells the master that all have it.
func (c *Cluster) handOn(node int) {
	if c.allHaveLog(node) {
		c.sendReady(node)
		return
	}
	for other := range c.nodes {
		if c.lacksLog(node, other) {
			c.sendLog(api.State, node, other)
		}
	}
}

func (c *Cluster) lacksLog(node int, other int) bool {
	return !c.nodes[node].haveLog[other] && c.isOtherMember(node, other)
}

func (c *Cluster) allHaveLog(node int) bool {
	for other := range c.nodes {
		if c.lacksLog(node, other) {
			return false
		}
	}
	return true
}

func (c *Cluster) sendReady(node int) {
	c.send(message{kind: api.Ready, from: node, to: api.Master, epoch: c.nodes[node].follows})
}

package ledger

import (
	"testing"

	"ledger/api"
)

// The whole field of members and leaders round the edges, and far outside.
func TestP10Members(t *testing.T) {
	sums := []int{least, least + 1, -31, 1 << 5, 1 << 6, 1<<5 + 1, 1 << 32, 1<<32 + 1, 1 << 62, most}
	for members := -1; members <= 33; members++ {
		sums = append(sums, members)
	}
	for _, members := range sums {
		for _, leader := range []int{least, least + 4, -1, 0, 1, 2, 3, 4, 5, 6, 32, 64, 1 << 32, most} {
			c := New()
			before := copyOf(c)
			e := c.Reconfigure(members, leader)
			isThere := leader >= 0 && leader <= 4 && members >= 1 && members <= 31 && members&(1<<leader) != 0
			if !isThere {
				if e != api.ErrMembers {
					t.Errorf("Reconfigure(%d, %d) = %d", members, leader, e)
				}
				unchanged(t, c, before)
				continue
			}
			if e != api.OK {
				t.Errorf("Reconfigure(%d, %d) = %d", members, leader, e)
			}
			checkConfig(t, c, 2, members, leader, 1)
			list, _ := c.Messages()
			if len(list) != 1 || list[0] != (api.Message{Kind: api.Start, From: api.Master, To: leader, Epoch: 2}) {
				t.Errorf("Reconfigure(%d, %d): under way is %v", members, leader, list)
			}
		}
	}
}

func TestP10Epochs(t *testing.T) {
	c := New()
	for e := 2; e <= api.MaxEpochs; e++ {
		reconfigure(t, c, 1<<(e%5), e%5)
		checkConfig(t, c, e, 1<<(e%5), e%5, 1)
	}
	before := copyOf(c)
	if e := c.Reconfigure(31, 0); e != api.ErrEpochs {
		t.Errorf("one epoch too many: %d", e)
	}
	for _, a := range [][2]int{{0, 0}, {32, 0}, {8, 4}, {31, -1}, {31, 5}} {
		if e := c.Reconfigure(a[0], a[1]); e != api.ErrMembers {
			t.Errorf("Reconfigure(%d, %d) = %d", a[0], a[1], e)
		}
	}
	unchanged(t, c, before)
	remind(t, c)
	checkConfig(t, c, api.MaxEpochs, 1, 0, 1)
	deliverAll(t, c)
	checkConfig(t, c, api.MaxEpochs, 1, 0, api.MaxEpochs)
	checkNode(t, c, 0, api.Node{Up: true, Epoch: 40, Installed: 40, Role: api.Serving})
	if e := c.Reconfigure(1, 0); e != api.ErrEpochs {
		t.Errorf("one epoch too many: %d", e)
	}
}

// No node hears of an epoch ahead of a message: the old leader serves, and the new one does not.
func TestP10OnlyAStartIsSent(t *testing.T) {
	c := New()
	checkProduce(t, c, 1, 1, 1, 0, false)
	want := copyOf(c)
	reconfigure(t, c, 24, 3)
	if c.nodes[0].role != api.Serving {
		t.Errorf("node 0 is about %d", c.nodes[0].role)
	}
	checkWay(t, c, "Append:0>1@1/0 Append:0>2@1/0 Start:-1>3@2/0")
	drop(t, c, 2)
	checkConfig(t, c, 2, 24, 3, 1)
	want.epochs = c.epochs
	unchanged(t, c, want)
}

func TestP10Remind(t *testing.T) {
	c := New()
	before := copyOf(c)
	if e := c.Remind(); e != api.ErrActive {
		t.Errorf("Remind() = %d", e)
	}
	unchanged(t, c, before)
	reconfigure(t, c, 24, 3)
	before = copyOf(c)
	remind(t, c)
	checkWay(t, c, "Start:-1>3@2/0 Start:-1>3@2/0")
	drop(t, c, 1)
	unchanged(t, c, before)
	reconfigure(t, c, 20, 4) // the newest one's leader is told, and no other
	remind(t, c)
	checkWay(t, c, "Start:-1>3@2/0 Start:-1>4@3/0 Start:-1>4@3/0")
	checkConfig(t, c, 3, 20, 4, 1)
	deliverAll(t, c)
	checkConfig(t, c, 3, 20, 4, 3)
	before = copyOf(c)
	if e := c.Remind(); e != api.ErrActive {
		t.Errorf("Remind() = %d", e)
	}
	unchanged(t, c, before)
}

// The newest epoch is active as soon as the master says so, whether or not its leader has heard of it.
func TestP10RemindOfAnEpochThatIsActive(t *testing.T) {
	c := New()
	reconfigure(t, c, 8, 3)
	deliver(t, c, 0, 0, 2)
	checkWay(t, c, "Read:3>1@2/0 Read:3>2@2/0 Ready:3>-1@2/0")
	remind(t, c)
	deliver(t, c, 2)
	drop(t, c, 3)
	checkConfig(t, c, 2, 8, 3, 2)
	if e := c.Remind(); e != api.ErrActive {
		t.Errorf("Remind() = %d", e)
	}
	checkNode(t, c, 3, api.Node{Up: true, Epoch: 2, Installed: 2, Role: api.Sending})
}

func TestP10NoRoom(t *testing.T) {
	c := New()
	for i := range api.MaxMessages / 2 {
		checkProduce(t, c, 1, i+1, i, i, false)
	}
	before := copyOf(c)
	reconfigure(t, c, 24, 3)
	checkConfig(t, c, 2, 24, 3, 1)
	remind(t, c)
	before.epochs = c.epochs
	unchanged(t, c, before)
	drop(t, c, 0)
	remind(t, c)
	last := c.underWay[len(c.underWay)-1]
	if len(c.underWay) != api.MaxMessages || last.kind != api.Start || last.to != 3 || last.epoch != 2 {
		t.Errorf("%d are under way, the last is %+v", len(c.underWay), last)
	}
}

// The previous epoch is the one that was active when the epoch began: not the one before it,
// and not one that has become active since.
func TestP10Previous(t *testing.T) {
	c := New()
	moveTo(t, c, 24, 4) // 2 is active
	reconfigure(t, c, 1, 0)
	drop(t, c, 0)
	reconfigure(t, c, 3, 1)
	deliver(t, c, 0)
	checkWay(t, c, "Read:1>3@4/0 Read:1>4@4/0")
	deliverAll(t, c)
	checkConfig(t, c, 4, 3, 1, 4)
	reconfigure(t, c, 4, 2)
	deliver(t, c, 0)
	checkWay(t, c, "Read:2>0@5/0 Read:2>1@5/0")
	drop(t, c, 0, 0)
	reconfigure(t, c, 4, 2)
	drop(t, c, 0)
	remind(t, c)
	deliver(t, c, 0)
	checkWay(t, c, "Read:2>0@6/0 Read:2>1@6/0")
	deliverAll(t, c)
	checkConfig(t, c, 6, 4, 2, 6)
}

func TestP10ClustersApart(t *testing.T) {
	c, d := New(), New()
	before := copyOf(d)
	reconfigure(t, c, 24, 3)
	unchanged(t, d, before)
	before = copyOf(c)
	moveTo(t, d, 6, 2)
	checkConfig(t, d, 2, 6, 2, 2)
	unchanged(t, c, before)
	deliverAll(t, c)
	checkConfig(t, c, 2, 24, 3, 2)
}

// The master takes in a Ready of the newest epoch alone; one that comes again sends the Serve again.
func TestP11Ready(t *testing.T) {
	c := New()
	reconfigure(t, c, 8, 3)
	deliver(t, c, 0, 0)
	drop(t, c, 0, 0)
	deliver(t, c, 0)
	checkWay(t, c, "Ready:3>-1@2/0")
	c.Twice(0)
	c.Twice(0)
	deliver(t, c, 0)
	checkConfig(t, c, 2, 8, 3, 2)
	checkWay(t, c, "Ready:3>-1@2/0 Ready:3>-1@2/0 Serve:-1>3@2/0")
	deliver(t, c, 0)
	checkConfig(t, c, 2, 8, 3, 2)
	checkWay(t, c, "Ready:3>-1@2/0 Serve:-1>3@2/0 Serve:-1>3@2/0")
	drop(t, c, 1, 1)
	reconfigure(t, c, 2, 1)
	want := copyOf(c)
	deliver(t, c, 0)
	want.underWay = want.underWay[1:]
	unchanged(t, c, want)
	checkConfig(t, c, 3, 2, 1, 2)
	checkWay(t, c, "Start:-1>1@3/0")
}

func TestP11ReadyOfAnOvertakenEpoch(t *testing.T) {
	c := New()
	reconfigure(t, c, 8, 3)
	deliver(t, c, 0, 0, 2)
	drop(t, c, 0, 0)
	reconfigure(t, c, 16, 4)
	checkWay(t, c, "Ready:3>-1@2/0 Start:-1>4@3/0")
	deliver(t, c, 0)
	checkConfig(t, c, 3, 16, 4, 1)
	checkWay(t, c, "Start:-1>4@3/0")
	deliverAll(t, c)
	checkConfig(t, c, 3, 16, 4, 3)
	checkNode(t, c, 3, api.Node{Up: true, Epoch: 2, Installed: 2, Role: api.Sending})
}

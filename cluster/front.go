package cluster

import (
	"slices"

	"casket/api"
	"casket/msg"
	"casket/repair"
	"casket/sibling"
)

// operation: what is told of one, and what it comes from.
type operation struct {
	Op
	deadline int
	sent     map[int]int     // the kind of message that each replica was sent
	answers  []repair.Answer // of a Get that isn't Done
}

// Put, Get: an operation begins: its number.
func (c *Cluster) Put(key api.Blind, s sibling.Sibling) (int, api.Errno) {
	if !c.made() {
		return 0, api.ErrArg
	}
	set, e := sibling.Put(nil, s)
	if e != api.OK {
		return 0, api.ErrArg
	}
	ask, o := c.operate(Op{Put: true, Key: key, Set: set})
	row := rowOf(key, set)
	pairs, _ := c.ring.Stand(key, c.config.N, c.up()) // of a config there is no error
	for _, p := range pairs {
		who, whom := p[0], p[1]
		m := msg.Msg{Kind: msg.Store, Ask: ask, Row: row}
		if who != whom {
			m.Kind, m.For = msg.Hold, whom
		}
		c.ask(o, who, m)
	}
	return ask, api.OK
}

func (c *Cluster) Get(key api.Blind) (int, api.Errno) {
	if !c.made() {
		return 0, api.ErrArg
	}
	ask, o := c.operate(Op{Key: key})
	first, _ := c.ring.Prefer(key, c.config.N)
	for _, who := range first {
		if c.nodes[who].up {
			c.ask(o, who, msg.Msg{Kind: msg.Fetch, Ask: ask, Row: msg.Row{Key: key}})
		}
	}
	return ask, api.OK
}

// Op: one, as it is; Tick: a step of time.
func (c *Cluster) Op(ask int) (Op, api.Errno) {
	if !c.made() {
		return Op{}, api.ErrArg
	}
	o, is := c.ops[ask]
	if !is {
		return Op{}, api.ErrMiss
	}
	out := o.Op
	out.Set, _ = sibling.Merge(nil, o.Set) // a copy: it is a set
	out.Acks = slices.Clone(o.Acks)
	return out, api.OK
}

func (c *Cluster) Tick() {
	if !c.made() {
		return
	}
	for _, o := range c.ops {
		if !o.Done && o.deadline <= c.now {
			o.finish(api.ErrTimeout)
		}
	}
	c.now++
}

// operate: an operation begins.
func (c *Cluster) operate(op Op) (int, *operation) {
	c.asked += askStep
	c.ops[c.asked] = &operation{Op: op, deadline: c.now + c.config.Wait, sent: map[int]int{}}
	return c.asked, c.ops[c.asked]
}

func (o *operation) finish(e api.Errno) {
	o.Done, o.Err = true, e
	o.sent, o.answers = nil, nil
}

// up: who is thought to be.
func (c *Cluster) up() []bool {
	var out []bool
	for _, n := range c.nodes {
		out = append(out, n.up)
	}
	return out
}

// ask: of an operation, from who answers.
func (c *Cluster) ask(o *operation, who int, m msg.Msg) {
	if c.tell(who, m) {
		o.sent[who] = m.Kind
	}
}

// tell: the front sends a message, if it may be sent at all, and there is room.
func (c *Cluster) tell(to int, m msg.Msg) bool {
	m.From = c.front()
	b, e := msg.Write(m)
	return e == api.OK && c.net.Send(to, b) == api.OK
}

// hear: the front is told something. What nobody waits for changes nothing.
func (c *Cluster) hear(b []byte) api.Errno {
	m, e := msg.Read(b)
	if e != api.OK {
		return api.ErrDecode
	}
	switch m.Kind {
	case msg.Stored:
		c.stored(m)
	case msg.Fetched:
		c.fetched(m)
	default:
		return api.ErrDecode
	}
	return api.OK
}

// stored: a replica keeps what a Put told it, or doesn't.
func (c *Cluster) stored(m msg.Msg) {
	o := c.waiting(m)
	if o == nil || !o.Put || m.Err != api.OK {
		return
	}
	o.Acks = append(o.Acks, m.From)
	o.Hinted = o.Hinted || o.sent[m.From] == msg.Hold
	if len(o.Acks) == c.config.W {
		o.finish(api.OK)
	}
}

// fetched: a replica tells what it has. Those that lack something of what all answers come to are told.
func (c *Cluster) fetched(m msg.Msg) {
	o := c.waiting(m)
	if o == nil || o.Put || o.Key != m.Row.Key {
		return
	}
	set, e := sibling.Read(m.Row.Set)
	if e != api.OK {
		return
	}
	o.Acks = append(o.Acks, m.From)
	o.answers = append(o.answers, repair.Answer{From: m.From, Set: set})
	if len(o.Acks) < c.config.R {
		return
	}
	whole, e := repair.Whole(o.answers)
	lacking, _ := repair.Lacking(o.answers) // of answers without a whole: nobody
	o.Set = whole
	o.finish(e)
	for _, who := range lacking {
		c.tell(who, msg.Msg{Kind: msg.Store, Ask: c.otherAsk(), Row: rowOf(o.Key, whole)})
	}
}

// waiting: the operation that waits for this answer of this replica (nil: none).
func (c *Cluster) waiting(m msg.Msg) *operation {
	o, is := c.ops[m.Ask]
	if !is || o.Done || slices.Contains(o.Acks, m.From) {
		return nil
	}
	if _, sent := o.sent[m.From]; !sent {
		return nil
	}
	return o
}

// rowOf: a key, and a set of siblings: there is no error.
func rowOf(key api.Blind, set []sibling.Sibling) msg.Row {
	b, _ := sibling.Write(set)
	return msg.Row{Key: key, Set: b}
}

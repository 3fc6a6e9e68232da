package script

import (
	"bytes"
	"slices"

	"casket/api"
	"casket/client"
	"casket/dot"
	"casket/sibling"
	"casket/sweep"
)

// Result is what became of an operation.
type Result struct {
	Step   int
	Client int
	Name   []byte
	Put    bool
	Done   bool
	Err    api.Errno
	Values []client.Value
	Passed int
	Handle int
}

// operation: a result, and the cluster's number of what it is of.
type operation struct {
	Result
	ask int
}

// put: a client's write goes to the cluster.
func (s *System) put(x Step) api.Errno {
	key, written, e := s.Client(x.Client).Write(x.Name, x.Value, x.Kind == Delete, s.Context(x.Handle))
	if e != api.OK {
		return e
	}
	return s.send(x, key, written)
}

// get: a client asks the cluster for a name.
func (s *System) get(x Step) api.Errno {
	key, e := s.Client(x.Client).Key(x.Name)
	if e != api.OK {
		return e
	}
	ask, e := s.cluster.Get(key)
	if e != api.OK {
		return e
	}
	s.begin(x, ask, false)
	return api.OK
}

// sweep: what was told of a name last goes to the cluster anew, as far as it is of an elder epoch.
func (s *System) sweep(x Step) api.Errno {
	c := s.Client(x.Client)
	l, e := sweep.Rewrite(c, x.Name, s.lastSet(x.Name))
	if e != api.OK || len(l) == 0 {
		return e
	}
	key, e := c.Key(x.Name)
	if e != api.OK {
		return e
	}
	for _, written := range l {
		if e := s.send(x, key, written); e != api.OK {
			return e
		}
	}
	return api.OK
}

// send: what was written for a key is kept by the cluster: its result is still to come.
func (s *System) send(x Step, key api.Blind, written sibling.Sibling) api.Errno {
	ask, e := s.cluster.Put(key, written)
	if e != api.OK {
		return e
	}
	s.begin(x, ask, true)
	return api.OK
}

func (s *System) begin(x Step, ask int, put bool) {
	r := Result{Step: s.steps, Client: x.Client, Name: slices.Clone(x.Name), Put: put}
	o := &operation{Result: r, ask: ask}
	s.ops = append(s.ops, o)
	s.waiting = append(s.waiting, o)
}

// lastSet: what the last Get of a name that is done came to (of none: nothing).
func (s *System) lastSet(name []byte) []sibling.Sibling {
	for _, o := range slices.Backward(s.ops) {
		if !o.Put && o.Done && o.Err == api.OK && bytes.Equal(o.Name, name) {
			op, _ := s.cluster.Op(o.ask)
			return op.Set
		}
	}
	return nil
}

// look: what is done now is noticed, in the order in which it began.
func (s *System) look() {
	s.waiting = slices.DeleteFunc(s.waiting, s.notice)
}

// notice: is an operation done? Then its result tells what it came to.
func (s *System) notice(o *operation) bool {
	op, e := s.cluster.Op(o.ask)
	if e != api.OK || !op.Done {
		return false
	}
	o.Done, o.Err = true, op.Err
	if o.Put || op.Err != api.OK {
		return true
	}
	o.Values, o.Passed, _ = s.Client(o.Client).Read(o.Name, op.Set)
	s.handles = append(s.handles, seenOf(o.Values))
	o.Handle = len(s.handles)
	return true
}

// seenOf: what values are, and have seen, as far as a context has room.
func seenOf(l []client.Value) dot.Context {
	var all dot.Context
	for _, v := range l {
		if more, e := dot.Add(all, v.Dot); e == api.OK {
			all = more
		}
		if more, e := dot.Join(all, v.Past); e == api.OK {
			all = more
		}
	}
	return all
}

func cloneResult(r Result) Result {
	r.Name = slices.Clone(r.Name)
	r.Values = slices.Clone(r.Values)
	for i := range r.Values {
		r.Values[i].Past = cloneContext(r.Values[i].Past)
		r.Values[i].Bytes = slices.Clone(r.Values[i].Bytes)
	}
	return r
}

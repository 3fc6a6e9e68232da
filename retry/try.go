package retry

import (
	"casket/api"
	"casket/dot"
	"casket/sibling"
)

// begin: an operation, whose first try came to an error, or to none.
func (s *Session) begin(o *operation, e api.Errno) (int, api.Errno) {
	if e != api.OK {
		return 0, e
	}
	s.ops = append(s.ops, o)
	return len(s.ops) - 1, api.OK
}

// write: a Put's next try, that has seen a past.
func (s *Session) write(o *operation, past dot.Context) api.Errno {
	key, written, e := s.client.Write(o.Name, o.value, o.deleted, past)
	if e != api.OK {
		return e
	}
	ask, e := s.cluster.Put(key, written)
	if e != api.OK {
		return e
	}
	o.tried(ask)
	o.sent = append(o.sent, written)
	return api.OK
}

// fetch: a Get's next try.
func (s *Session) fetch(o *operation) api.Errno {
	key, e := s.client.Key(o.Name)
	if e != api.OK {
		return e
	}
	ask, e := s.cluster.Get(key)
	if e != api.OK {
		return e
	}
	o.tried(ask)
	return api.OK
}

// again: the next try. A Put's has seen the try ahead: whichever of them replicas keep, they come to one.
func (s *Session) again(o *operation) api.Errno {
	if !o.Put {
		return s.fetch(o)
	}
	past, e := o.lastSeen()
	if e != api.OK {
		return e
	}
	return s.write(o, past)
}

// look: what the last try of an operation that isn't done came to.
func (s *Session) look(o *operation) {
	op, e := s.cluster.Op(o.ask)
	if e != api.OK || !op.Done {
		return
	}
	switch {
	case op.Err == api.ErrTimeout && o.Tries < s.tries:
		if e := s.again(o); e != api.OK {
			o.finish(e)
		}
	case op.Err != api.OK:
		o.finish(op.Err)
	default:
		s.tell(o, op.Set)
	}
}

// tell: an operation is done without an error. What is too large for a context is nothing.
func (s *Session) tell(o *operation, set []sibling.Sibling) {
	o.finish(api.OK)
	if o.Put {
		o.Seen, _ = o.lastSeen()
		return
	}
	o.Values, _, _ = s.client.Read(o.Name, set)
	o.Seen, _ = sibling.Seen(set)
}

func (o *operation) tried(ask int) {
	o.ask = ask
	o.Tries++
}

func (o *operation) finish(e api.Errno) {
	o.Done, o.Err = true, e
	o.value = nil
}

// lastSeen: what a Put's last sibling is, and has seen.
func (o *operation) lastSeen() (dot.Context, api.Errno) {
	last := o.sent[len(o.sent)-1]
	return dot.Add(last.Past, last.Dot)
}

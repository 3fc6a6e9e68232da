package trace

import (
	"casket/api"
	"casket/client"
	"casket/codec"
	"casket/dot"
	"casket/script"
	"casket/sha2"
)

// What a result is, together.
const (
	isPut  = 1
	isDone = 2
)

// Play: a script on a new system: what came of each step, and of all, as bytes.
func Play(c script.Config, l []script.Step) ([]byte, api.Errno) {
	s, e := script.New(c)
	if e != api.OK {
		return nil, e
	}
	if len(l) > mostSteps {
		return nil, api.ErrBig
	}
	out := new(codec.Out).Num(len(l))
	for _, x := range l {
		out.Small(int(s.Do(x)))
	}
	results := s.Results()
	out.Num(len(results))
	for _, r := range results {
		putResult(out, r)
	}
	for r := range c.Cluster.Replicas {
		sum := sha2.Sum(s.Cluster().Image(r))
		out.Fixed(sum[:])
	}
	return out.Done()
}

func putResult(out *codec.Out, r script.Result) {
	out.Num(r.Step).Small(r.Client).Small(isPut*bit(r.Put) + isDone*bit(r.Done))
	out.Small(int(r.Err)).Num(r.Passed).Num(r.Handle)
	out.Num(len(r.Values))
	for _, v := range r.Values {
		putValue(out, v)
	}
}

// putValue: what a client was told: its past is a context, there is no error.
func putValue(out *codec.Out, v client.Value) {
	past, _ := dot.Write(v.Past)
	out.Num(v.Dot.Client).Num(v.Dot.Number).Num(v.Epoch).Small(bit(v.Deleted))
	out.Bytes(past).Bytes(v.Bytes)
}

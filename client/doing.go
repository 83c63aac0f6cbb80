package client

import (
	"slices"

	"rill/api"
	"rill/chunk"
	"rill/meta"
	"rill/sha"
	"rill/sift"
	"rill/tally"
)

// doing is what a client does: a phase at hand, with the answers to it, and what the phases ahead of it have left.
type doing struct {
	*tally.Tally
	// phase is the kind of the question that is asked in it.
	phase int
	// result is what it will end with, as far as that is known.
	result api.Result
	// refused is the greatest code of the nodes that said no in the phase.
	refused api.Errno

	// version is how a new version is made of its tag; nil, where none is.
	version func(api.Tag) (api.Meta, api.Errno)
	value   []byte
	deal    [][]api.Sym

	// meta is what the questions are about.
	meta api.Meta
	// best is the told one with the latest tag; asks is how often it was asked for.
	best api.Meta
	asks int
	syms []api.Sym
	// latest has for each key that was told which of its tags is the latest, and whether it is the key's end.
	latest map[string]api.Meta
}

// question is what the phase asks a node.
func (d *doing) question(node int) api.Msg {
	q := api.Msg{Kind: d.phase, Op: d.result.Op, Key: d.result.Key}
	switch d.phase {
	case api.MsgStage:
		for _, sym := range d.deal[node] {
			sym.Data = slices.Clone(sym.Data)
			q.Syms = append(q.Syms, sym)
		}
		fallthrough
	case api.MsgCommit:
		fallthrough
	case api.MsgFetch:
		q.Meta = copyOf(d.meta)
	}
	return q
}

// copyOf shares no memory with the meta.
func copyOf(m api.Meta) api.Meta {
	m.Sum = slices.Clone(m.Sum)
	return m
}

// awaits: is it the answer to the phase's question, by a node that hasn't answered yet?
func (d *doing) awaits(m api.Msg) bool {
	answer := d.phase + 1 // each kind of answers stands behind its question's
	return m.Op == d.result.Op && m.Kind == answer && slices.Contains(d.Waiting(), m.From)
}

// count: the answer counts, and what the further phases need of it is kept.
func (d *doing) count(m api.Msg) {
	switch d.phase {
	case api.MsgStage, api.MsgCommit:
		if m.Code > 0 {
			d.refused = max(d.refused, api.Errno(m.Code))
			d.No(m.From)
			return
		}
	case api.MsgAsk:
		if meta.Earlier(d.best.Tag, m.Meta.Tag) {
			d.best = copyOf(m.Meta)
		}
	case api.MsgList:
		for _, item := range m.Items {
			if meta.Earlier(d.latest[item.Key].Tag, item.Meta.Tag) {
				d.latest[item.Key] = api.Meta{Tag: item.Meta.Tag, Dead: item.Meta.Dead}
			}
		}
	}
	d.Yes(m.From)
}

// alive: the keys whose latest version isn't their end, rising.
func (d *doing) alive() []string {
	var keys []string
	for key, m := range d.latest {
		if !m.Dead {
			keys = append(keys, key)
		}
	}
	slices.Sort(keys)
	return keys
}

// gather puts symbols behind those that there are: the value, if they give back that of the best version.
func (d *doing) gather(syms []api.Sym) ([]byte, bool) {
	size, t := d.best.Size, d.best.T
	d.syms = sift.Symbols(size, t, d.syms, syms)
	if !chunk.Ready(size, t, d.syms...) {
		return nil, false
	}
	value, err := chunk.Gather(size, t, d.syms...)
	if err != api.OK || !sha.Same(sha.Sum(value), d.best.Sum) {
		return nil, false
	}
	return value, true
}

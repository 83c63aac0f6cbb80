package store

import (
	"bytes"
	"cmp"
	"slices"

	"rill/api"
	"rill/meta"
)

// version is what a tag of a key names.
type version struct {
	key string
	tag api.Tag
}

// home is the slot that has a symbol, and the symbol's digest.
type home struct {
	slot int
	sum  []byte
}

// state is what the records of a log have made, one after the other.
type state struct {
	slots     int
	committed map[string]api.Meta
	staged    map[version]api.Meta
	homes     map[api.Spot]home
}

func newState(slots int) state {
	return state{
		slots:     slots,
		committed: map[string]api.Meta{},
		staged:    map[version]api.Meta{},
		homes:     map[api.Spot]home{},
	}
}

// apply: the record changes the state. ErrLog, if it lays a symbol where none can be.
func (s *state) apply(r api.Record) api.Errno {
	switch r.Kind {
	case api.RecStage:
		return s.stage(r)
	case api.RecCommit:
		s.commit(r)
	case api.RecAdd:
		if _, there := s.find(r.Key, r.Meta.Tag); there {
			return s.settle(r)
		}
	case api.RecDrop:
		for _, p := range r.Places {
			delete(s.homes, spotOf(r, p))
		}
	}
	return api.OK
}

func (s *state) stage(r api.Record) api.Errno {
	if !s.later(r.Key, r.Meta.Tag) {
		return api.OK
	}
	v := version{r.Key, r.Meta.Tag}
	if _, known := s.staged[v]; !known {
		s.staged[v] = r.Meta
	}
	return s.settle(r)
}

func (s *state) commit(r api.Record) {
	tag := r.Meta.Tag
	if !s.later(r.Key, tag) {
		return
	}
	s.committed[r.Key] = r.Meta
	for v := range s.staged {
		if v.key == r.Key && !meta.Earlier(tag, v.tag) {
			delete(s.staged, v)
		}
	}
	for spot := range s.homes {
		if spot.Key == r.Key && (meta.Earlier(spot.Tag, tag) || r.Meta.Dead && spot.Tag == tag) {
			delete(s.homes, spot)
		}
	}
}

// settle: the record's places are symbols of its version, where this hasn't them.
func (s *state) settle(r api.Record) api.Errno {
	taken := s.taken()
	for _, p := range r.Places {
		spot := spotOf(r, p)
		if _, there := s.homes[spot]; there {
			continue
		}
		if p.Slot >= s.slots || taken[p.Slot] {
			return api.ErrLog
		}
		s.homes[spot] = home{p.Slot, p.Sum}
		taken[p.Slot] = true
	}
	return api.OK
}

func spotOf(r api.Record, p api.Place) api.Spot {
	return api.Spot{Key: r.Key, Tag: r.Meta.Tag, Block: p.Block, Esi: p.Esi}
}

// taken: which slots have a symbol.
func (s *state) taken() [api.MaxSlots]bool {
	var taken [api.MaxSlots]bool
	for _, h := range s.homes {
		taken[h.slot] = true
	}
	return taken
}

// vacant: the slots without a symbol, rising.
func (s *state) vacant() []int {
	var slots []int
	taken := s.taken()
	for slot := range s.slots {
		if !taken[slot] {
			slots = append(slots, slot)
		}
	}
	return slots
}

// later: is the tag later than the committed one's?
func (s *state) later(key string, tag api.Tag) bool {
	return meta.Earlier(s.committed[key].Tag, tag)
}

// find: the meta of a version that may have symbols.
func (s *state) find(key string, tag api.Tag) (api.Meta, bool) {
	if m, there := s.committed[key]; there && m.Tag == tag {
		return m, !m.Dead
	}
	m, there := s.staged[version{key, tag}]
	return m, there
}

// clash: is another meta of its tag staged?
func (s *state) clash(key string, m api.Meta) bool {
	other, there := s.staged[version{key, m.Tag}]
	return there && (other.Size != m.Size || other.T != m.T || other.Dead != m.Dead || !bytes.Equal(other.Sum, m.Sum))
}

// spots: those that are asked for, by key, tag, Block, Esi.
func (s *state) spots(asked func(api.Spot) bool) []api.Spot {
	var spots []api.Spot
	for spot := range s.homes {
		if asked(spot) {
			spots = append(spots, spot)
		}
	}
	slices.SortFunc(spots, func(a, b api.Spot) int {
		return cmp.Or(cmp.Compare(a.Key, b.Key), inOrder(a.Tag, b.Tag), cmp.Compare(a.Block, b.Block), cmp.Compare(a.Esi, b.Esi))
	})
	return spots
}

func inOrder(a, b api.Tag) int {
	return cmp.Or(cmp.Compare(a.N, b.N), cmp.Compare(a.Client, b.Client))
}

package world

import (
	"slices"

	"rill/api"
	"rill/client"
	"rill/msg"
	"rill/scrub"
)

// rule is what happens in steps of a kind.
type rule func(*World, api.Step) api.Errno

func rules() map[int]rule {
	return map[int]rule{
		api.StepPut: begins(api.DoPut, func(c *client.Client, s api.Step) ([]api.Msg, api.Errno) {
			return c.Put(s.Key, s.Value)
		}),
		api.StepGet: begins(api.DoGet, func(c *client.Client, s api.Step) ([]api.Msg, api.Errno) {
			return c.Get(s.Key)
		}),
		api.StepDelete: begins(api.DoDelete, func(c *client.Client, s api.Step) ([]api.Msg, api.Errno) {
			return c.Delete(s.Key)
		}),
		api.StepList: begins(api.DoList, func(c *client.Client, _ api.Step) ([]api.Msg, api.Errno) {
			return c.List()
		}),
		api.StepQuit:    ofClient((*World).quit),
		api.StepAgain:   ofClient((*World).again),
		api.StepDeliver: (*World).deliver,
		api.StepLose:    (*World).lose,
		api.StepDouble:  (*World).double,
		api.StepCrash:   ofNode((*World).crash),
		api.StepWipe:    ofNode((*World).wipe),
		api.StepRot:     ofNode((*World).rot),
		api.StepScrub:   ofNode((*World).scrub),
		api.StepMend:    ofNode((*World).mend),
	}
}

// ofClient: the rule, for a client that there is.
func ofClient(r rule) rule {
	return func(w *World, s api.Step) api.Errno {
		if s.Client < 0 || s.Client >= len(w.clients) {
			return api.ErrStep
		}
		return r(w, s)
	}
}

// ofNode: the rule, for a node that there is.
func ofNode(r rule) rule {
	return func(w *World, s api.Step) api.Errno {
		if s.Node < 0 || s.Node >= len(w.servers) {
			return api.ErrStep
		}
		return r(w, s)
	}
}

// begins is the rule by which a client begins something, and an act with it.
func begins(do int, begin func(*client.Client, api.Step) ([]api.Msg, api.Errno)) rule {
	return ofClient(func(w *World, s api.Step) api.Errno {
		messages, err := begin(w.clients[s.Client], s)
		if err != api.OK {
			return err
		}
		act := api.Act{Client: s.Client, Do: do, Start: w.step, End: -1}
		if do != api.DoList {
			act.Key = s.Key
		}
		if do == api.DoPut {
			act.Value = slices.Clone(s.Value)
		}
		w.acts = append(w.acts, act)
		w.send(messages...)
		return api.OK
	})
}

// finish: the act that the client had begun last ends.
func (w *World) finish(id int, r api.Result) {
	for i, act := range slices.Backward(w.acts) {
		if act.Client == id {
			w.acts[i].End, w.acts[i].Result = w.step, r
			return
		}
	}
}

func (w *World) quit(s api.Step) api.Errno {
	return unlessStep(w.clients[s.Client].Quit())
}

// unlessStep: what can't be done, since there is nothing to do it to, is no step.
func unlessStep(did bool) api.Errno {
	if !did {
		return api.ErrStep
	}
	return api.OK
}

func (w *World) again(s api.Step) api.Errno {
	w.send(w.clients[s.Client].Again()...)
	return api.OK
}

func (w *World) lose(s api.Step) api.Errno { return unlessStep(w.Lose(s.N)) }

func (w *World) double(s api.Step) api.Errno { return unlessStep(w.Double(s.N)) }

func (w *World) deliver(s api.Step) api.Errno {
	to, bytes, there := w.Take(s.N)
	if !there {
		return api.ErrStep
	}
	m, err := msg.Decode(bytes)
	if err != api.OK {
		return api.OK
	}
	if to < api.MaxNodes {
		w.reach(w.servers[to], m)
		return api.OK
	}
	id := to - api.MaxNodes
	w.send(w.clients[id].Take(m)...)
	if result, told := w.clients[id].Result(); told {
		w.finish(id, result)
	}
	return api.OK
}

// reach: a message comes to a node.
func (w *World) reach(s *server, m api.Msg) {
	if s.down() {
		return
	}
	if answer, given := s.Take(m); given {
		w.send(answer)
	}
}

func (w *World) crash(s api.Step) api.Errno {
	return w.start(s.Node, w.servers[s.Node].disk.Left(s.Fate, s.N))
}

func (w *World) wipe(s api.Step) api.Errno { return w.replace(s.Node) }

func (w *World) rot(s api.Step) api.Errno {
	return w.servers[s.Node].disk.Rot(s.N, s.M)
}

func (w *World) scrub(s api.Step) api.Errno {
	return w.servers[s.Node].keep(func(s *server) api.Errno {
		_, err := scrub.Scrub(s.Store)
		return err
	})
}

func (w *World) mend(s api.Step) api.Errno {
	return w.servers[s.Node].keep(func(own *server) api.Errno {
		m, _ := own.Meta(s.Key)
		var others [][]api.Sym
		for _, other := range w.servers {
			if other != own && !other.down() {
				others = append(others, other.Syms(s.Key, m.Tag))
			}
		}
		_, err := scrub.Mend(w.config, s.Node, own.Store, s.Key, others...)
		return err
	})
}

// keep: the work is done on the node's store, as long as it has power.
func (s *server) keep(work func(*server) api.Errno) api.Errno {
	if s.down() {
		return api.ErrDown
	}
	err := work(s)
	s.lost = err == api.ErrDown
	return err
}

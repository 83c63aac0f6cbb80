package world_test

import (
	"fmt"
	"math"
	"math/rand"
	"slices"
	"strings"
	"testing"
	"unsafe"

	"rill/api"
	"rill/meta"
	"rill/place"
	"rill/world"
)

func one() api.Config {
	return api.Config{Nodes: 1, Write: 1, Read: 1, Clients: 1, T: 4, Slots: 50}
}

func three() api.Config {
	return api.Config{Nodes: 3, Write: 2, Read: 2, Clients: 2, T: 4, Slots: 50}
}

const value = "a value of 23 bytes ..."

func fresh(t *testing.T, c api.Config) *world.World {
	t.Helper()
	w, err := world.New(c)
	if err != api.OK || w == nil {
		t.Fatal(err)
	}
	return w
}

func put(client int, key, value string) api.Step {
	return api.Step{Kind: api.StepPut, Client: client, Key: key, Value: []byte(value)}
}

func get(client int, key string) api.Step {
	return api.Step{Kind: api.StepGet, Client: client, Key: key}
}

func remove(client int, key string) api.Step {
	return api.Step{Kind: api.StepDelete, Client: client, Key: key}
}

func ofClient(kind, client int) api.Step { return api.Step{Kind: kind, Client: client} }

func deliver(n int) api.Step { return api.Step{Kind: api.StepDeliver, N: n} }

func ofNode(kind, node int) api.Step { return api.Step{Kind: kind, Node: node} }

func crash(node, power, keep int, reset bool, fates ...int) api.Step {
	return api.Step{Kind: api.StepCrash, Node: node, N: power, Fate: api.Fate{Keep: keep, Reset: reset, Slots: fates}}
}

func mend(node int, key string) api.Step {
	return api.Step{Kind: api.StepMend, Node: node, Key: key}
}

// steps must all answer OK.
func steps(t *testing.T, w *world.World, ss ...api.Step) {
	t.Helper()
	for i, err := range w.Play(ss...) {
		if err != api.OK {
			t.Errorf("the step %d, %+v: %v", i, ss[i], err)
		}
	}
}

func step(t *testing.T, w *world.World, s api.Step, want api.Errno) {
	t.Helper()
	if err := w.Do(s); err != want {
		t.Errorf("%+v: %v, not %v", s, err, want)
	}
}

// settle delivers all that is on its way, the first one first.
func settle(t *testing.T, w *world.World) {
	t.Helper()
	for len(w.Flight()) > 0 {
		step(t, w, deliver(0), api.OK)
	}
}

// done: the steps, and all that comes of them.
func done(t *testing.T, w *world.World, ss ...api.Step) api.Act {
	t.Helper()
	for _, s := range ss {
		step(t, w, s, api.OK)
		settle(t, w)
	}
	acts := w.Acts()
	return acts[len(acts)-1]
}

func showAct(a api.Act) string {
	return fmt.Sprintf("client %d do %d %d-%d %q %q: op %d do %d %q %q %v code %d %v %q", a.Client, a.Do, a.Start, a.End, a.Key, a.Value,
		a.Result.Op, a.Result.Do, a.Result.Key, a.Result.Value, a.Result.Tag, a.Result.Code, a.Result.Found, slices.Clone(a.Result.Keys))
}

func showHeld(m api.Meta, syms []api.Sym) string {
	text := fmt.Sprintf("%v %d %d %v %x", m.Tag, m.Size, m.T, m.Dead, m.Sum)
	for _, s := range syms {
		text += fmt.Sprintf("(%d %d %x)", s.Block, s.Esi, s.Data)
	}
	return text
}

// held: what the node should have of a value that was put with that tag.
func held(c api.Config, node, n, client int, value string) string {
	m, _ := meta.Of(api.Tag{N: n, Client: client}, c.T, []byte(value))
	deal, _ := place.Deal(c, []byte(value))
	return showHeld(m, deal[node])
}

func holds(t *testing.T, w *world.World, node int, key, want string) {
	t.Helper()
	if got := showHeld(w.Held(node, key)); got != want {
		t.Errorf("the node %d holds of %q %s, not %s", node, key, got, want)
	}
}

func acted(t *testing.T, got, want api.Act) {
	t.Helper()
	if showAct(got) != showAct(want) {
		t.Errorf("%s, not %s", showAct(got), showAct(want))
	}
}

var noHold = showHeld(api.Meta{}, nil)

func TestNew(t *testing.T) {
	for _, c := range []api.Config{{}, {Nodes: 9, Write: 9, Read: 9, Clients: 1, T: 1, Slots: 1}, {Nodes: 3, Write: 2, Read: 1, Clients: 1, T: 1, Slots: 1}} {
		if w, err := world.New(c); w != nil || err != api.ErrConfig {
			t.Errorf("New(%+v): %v", c, err)
		}
	}
	w := fresh(t, three())
	if len(w.Acts())+len(w.Flight())+len(w.Down())+len(w.Play()) != 0 {
		t.Error("a new world", w.Acts(), w.Flight(), w.Down())
	}
	for _, node := range []int{0, 1, 2, 3, -1, math.MinInt64, math.MaxInt64} {
		holds(t, w, node, "k", noHold)
	}
}

func TestTheChaptersExample(t *testing.T) {
	w := fresh(t, one())
	if errs := w.Play(put(0, "k", "abc"), deliver(0), deliver(0), deliver(0), deliver(0), deliver(0)); !slices.Equal(errs, make([]api.Errno, 6)) {
		t.Error(errs)
	}
	acted(t, w.Acts()[0], api.Act{Do: api.DoPut, Start: 0, End: -1, Key: "k", Value: []byte("abc")})
	steps(t, w, deliver(0))
	tag := api.Tag{N: 1}
	acted(t, w.Acts()[0], api.Act{Do: api.DoPut, Start: 0, End: 6, Key: "k", Value: []byte("abc"), Result: api.Result{Op: 1, Do: api.DoPut, Key: "k", Tag: tag}})
	if len(w.Flight()) != 0 || len(w.Acts()) != 1 {
		t.Error(w.Flight(), len(w.Acts()))
	}
	holds(t, w, 0, "k", held(one(), 0, 1, 0, "abc"))
}

func TestTheMessagesOfAPut(t *testing.T) {
	w := fresh(t, three())
	flight := func(want ...int) {
		t.Helper()
		if got := w.Flight(); !slices.Equal(got, want) {
			t.Errorf("Flight: %v, not %v", got, want)
		}
	}
	steps(t, w, put(1, "k", value))
	flight(0, 1, 2)
	steps(t, w, deliver(0), deliver(0), deliver(0))
	flight(9, 9, 9)
	steps(t, w, deliver(1))
	flight(9, 9)
	steps(t, w, deliver(1)) // behind two answers three stages
	flight(9, 0, 1, 2)
	steps(t, w, deliver(1), deliver(2))
	flight(9, 1, 9, 9)
	steps(t, w, deliver(2), deliver(2))
	flight(9, 1, 0, 1, 2)
	holds(t, w, 0, "k", noHold)
	steps(t, w, deliver(2))
	holds(t, w, 0, "k", held(three(), 0, 1, 1, value))
	steps(t, w, deliver(3))
	flight(9, 1, 1, 9, 9)
	if w.Acts()[0].End != -1 {
		t.Error("it has ended", w.Acts())
	}
	steps(t, w, deliver(3), deliver(3))
	flight(9, 1, 1)
	acted(t, w.Acts()[0], api.Act{Client: 1, Do: api.DoPut, End: 13, Key: "k", Value: []byte(value), Result: api.Result{Op: 1, Do: api.DoPut, Key: "k", Tag: api.Tag{N: 1, Client: 1}}})
	settle(t, w)
	for node := range 3 {
		holds(t, w, node, "k", held(three(), node, 1, 1, value))
	}
}

func TestActsOfAllKinds(t *testing.T) {
	w := fresh(t, three())
	res := func(op, do int, key string, r api.Result) api.Result {
		r.Op, r.Do, r.Key = op, do, key
		return r
	}
	tag := func(n, client int) api.Tag { return api.Tag{N: n, Client: client} }
	acted(t, done(t, w, get(0, "k")), api.Act{Do: api.DoGet, Start: 0, End: 5, Key: "k", Result: res(1, api.DoGet, "k", api.Result{})})
	a := done(t, w, put(1, "k", value))
	acted(t, a, api.Act{Client: 1, Do: api.DoPut, Start: a.Start, End: a.End, Key: "k", Value: []byte(value), Result: res(1, api.DoPut, "k", api.Result{Tag: tag(1, 1)})})
	a = done(t, w, api.Step{Kind: api.StepGet, Client: 0, Key: "k", Value: []byte("no use"), Node: 77})
	acted(t, a, api.Act{Do: api.DoGet, Start: a.Start, End: a.End, Key: "k", Result: res(2, api.DoGet, "k", api.Result{Tag: tag(1, 1), Found: true, Value: []byte(value)})})
	a = done(t, w, put(0, "j", "x"), api.Step{Kind: api.StepList, Client: 1, Key: "no use", Value: []byte("none")})
	acted(t, a, api.Act{Client: 1, Do: api.DoList, Start: a.Start, End: a.End, Result: res(2, api.DoList, "", api.Result{Keys: []string{"j", "k"}})})
	a = done(t, w, remove(0, "k"))
	acted(t, a, api.Act{Do: api.DoDelete, Start: a.Start, End: a.End, Key: "k", Result: res(4, api.DoDelete, "k", api.Result{Tag: tag(2, 0)})})
	a = done(t, w, get(1, "k"))
	acted(t, a, api.Act{Client: 1, Do: api.DoGet, Start: a.Start, End: a.End, Key: "k", Result: res(3, api.DoGet, "k", api.Result{Tag: tag(2, 0)})})
	a = done(t, w, ofClient(api.StepList, 0))
	acted(t, a, api.Act{Do: api.DoList, Start: a.Start, End: a.End, Result: res(5, api.DoList, "", api.Result{Keys: []string{"j"}})})
	if n := len(w.Acts()); n != 7+1 {
		t.Error("acts", n)
	}
	holds(t, w, 0, "k", showHeld(api.Meta{Tag: tag(2, 0), Dead: true}, nil))
}

func TestStepsThatCannotBe(t *testing.T) {
	w := fresh(t, three())
	numbers := []int{-1, 3, math.MinInt64, math.MaxInt64}
	for _, kind := range []int{0, -1, 15, math.MinInt64, math.MaxInt64} {
		step(t, w, api.Step{Kind: kind, Key: "k", Value: []byte("v")}, api.ErrStep)
	}
	for _, n := range append(numbers, 2) {
		for kind := api.StepPut; kind <= api.StepAgain; kind++ {
			step(t, w, api.Step{Kind: kind, Client: n, Key: "k", Value: []byte("v")}, api.ErrStep)
			step(t, w, api.Step{Kind: kind, Client: n}, api.ErrStep)
		}
	}
	for _, n := range numbers {
		for kind := api.StepCrash; kind <= api.StepMend; kind++ {
			step(t, w, api.Step{Kind: kind, Node: n, Key: "k"}, api.ErrStep)
		}
	}
	for _, n := range append(numbers, 0) {
		for kind := api.StepDeliver; kind <= api.StepDouble; kind++ {
			step(t, w, api.Step{Kind: kind, N: n}, api.ErrStep)
		}
	}
	step(t, w, ofClient(api.StepQuit, 0), api.ErrStep)
	step(t, w, ofClient(api.StepAgain, 0), api.OK)
	step(t, w, put(0, "", "v"), api.ErrKey)
	step(t, w, put(0, strings.Repeat("k", 33), ""), api.ErrKey)
	step(t, w, put(0, "k", ""), api.ErrValue)
	step(t, w, put(0, "k", strings.Repeat("v", 1025)), api.ErrValue)
	step(t, w, get(1, ""), api.ErrKey)
	step(t, w, remove(1, ""), api.ErrKey)
	if len(w.Acts())+len(w.Flight())+len(w.Down()) != 0 {
		t.Error("these have changed the world")
	}
	step(t, w, put(0, "k", "v"), api.OK)
	for _, s := range []api.Step{put(0, "k", "v"), get(0, "k"), remove(0, ""), ofClient(api.StepList, 0)} {
		step(t, w, s, api.ErrBusy)
	}
	if len(w.Acts()) != 1 || len(w.Flight()) != 3 {
		t.Error("a busy client has begun something")
	}
	for _, n := range append(numbers, 4) {
		for kind := api.StepDeliver; kind <= api.StepDouble; kind++ {
			step(t, w, api.Step{Kind: kind, N: n}, api.ErrStep)
		}
	}
}

func TestEachStepHasANumber(t *testing.T) {
	w := fresh(t, one())
	for range 5 {
		step(t, w, api.Step{}, api.ErrStep)
	}
	step(t, w, put(0, "", "v"), api.ErrKey)
	steps(t, w, put(0, "k", "v"), deliver(0), deliver(0))
	step(t, w, deliver(5), api.ErrStep)
	steps(t, w, deliver(0), deliver(0), deliver(0), deliver(0))
	if a := w.Acts()[0]; a.Start != 6 || a.End != 13 {
		t.Error(showAct(a))
	}
}

func TestTwoClientsAtOneTime(t *testing.T) {
	w := fresh(t, three())
	steps(t, w, put(1, "k", "one"), get(0, "k"))
	settle(t, w)
	acts := w.Acts()
	if len(acts) != 2 || acts[0].Client != 1 || acts[0].Result.Do != api.DoPut || acts[1].Result.Do != api.DoGet || acts[0].End <= acts[1].End || acts[1].End < 0 {
		t.Error("each client's own act ends", showAct(acts[0]), showAct(acts[1]))
	}
}

func TestQuitAndAgain(t *testing.T) {
	w := fresh(t, three())
	steps(t, w, put(0, "k", "v"), deliver(0), ofClient(api.StepAgain, 0))
	if got := w.Flight(); !slices.Equal(got, []int{1, 2, 8, 0, 1, 2}) {
		t.Error("Again", got)
	}
	steps(t, w, deliver(2), ofClient(api.StepAgain, 0))
	if got := w.Flight(); !slices.Equal(got, []int{1, 2, 0, 1, 2, 1, 2}) {
		t.Error("Again behind an answer", got)
	}
	steps(t, w, ofClient(api.StepQuit, 0))
	step(t, w, ofClient(api.StepQuit, 0), api.ErrStep)
	settle(t, w)
	if a := w.Acts()[0]; a.End != -1 || showAct(a) != showAct(api.Act{Do: api.DoPut, End: -1, Key: "k", Value: []byte("v")}) {
		t.Error("an act that was quit has ended", showAct(a))
	}
	if a := done(t, w, get(0, "k")); a.End < 0 || a.Result.Op != 2 || w.Acts()[0].End != -1 {
		t.Error("the next act", showAct(a))
	}
}

func TestLoseAndDouble(t *testing.T) {
	w := fresh(t, three())
	steps(t, w, put(0, "k", "v"), api.Step{Kind: api.StepDouble, N: 1}, api.Step{Kind: api.StepLose, N: 0})
	if got := w.Flight(); !slices.Equal(got, []int{1, 2, 1}) {
		t.Error(got)
	}
	steps(t, w, deliver(2), deliver(0))
	if got := w.Flight(); !slices.Equal(got, []int{2, 8, 8}) {
		t.Error(got)
	}
	steps(t, w, deliver(1), deliver(1)) // one node's answer counts once
	if got := w.Flight(); !slices.Equal(got, []int{2}) {
		t.Error(got)
	}
	for len(w.Flight()) < 400 {
		steps(t, w, api.Step{Kind: api.StepDouble})
	}
	step(t, w, api.Step{Kind: api.StepDouble}, api.ErrStep)
	steps(t, w, ofClient(api.StepAgain, 0)) // there is no room for these
	if got := w.Flight(); len(got) != 400 || got[399] != 2 {
		t.Error(len(got))
	}
}

func TestAllDatagramsComeTwice(t *testing.T) {
	w, twice := fresh(t, three()), fresh(t, three())
	for _, s := range []api.Step{put(0, "k", value), put(1, "k", "another"), get(0, "k"), remove(1, "j"), put(0, "j", "back"), ofClient(api.StepList, 1)} {
		steps(t, w, s)
		settle(t, w)
		steps(t, twice, s)
		for len(twice.Flight()) > 0 {
			n := len(twice.Flight())
			steps(t, twice, api.Step{Kind: api.StepDouble}, deliver(0), deliver(n-1))
		}
	}
	for i, a := range twice.Acts() {
		b := w.Acts()[i]
		a.Start, a.End, b.Start, b.End = 0, 0, 0, 0
		acted(t, a, b)
	}
	for node := range 3 {
		for _, key := range []string{"k", "j"} {
			holds(t, twice, node, key, showHeld(w.Held(node, key)))
		}
	}
}

func TestCrash(t *testing.T) {
	w := fresh(t, three())
	done(t, w, put(0, "k", value))
	step(t, w, crash(1, 0, 0, false), api.OK) // there is no power, but nothing needs it
	if len(w.Down()) != 0 {
		t.Error("Down", w.Down())
	}
	holds(t, w, 1, "k", held(three(), 1, 1, 0, value))
	a := done(t, w, put(1, "k", "another"))
	if !slices.Equal(w.Down(), []int{1}) || a.Result.Code != api.OK || a.End < 0 {
		t.Error("a change without power", w.Down(), showAct(a))
	}
	holds(t, w, 1, "k", noHold)
	if a := done(t, w, get(0, "k")); string(a.Result.Value) != "another" {
		t.Error("two of three", showAct(a))
	}
	step(t, w, ofNode(api.StepScrub, 1), api.ErrDown)
	step(t, w, mend(1, "k"), api.ErrDown)
	step(t, w, mend(1, ""), api.ErrDown)
	step(t, w, ofNode(api.StepWipe, 2), api.OK) // it answers as if it had never been there
	if a := done(t, w, get(0, "k")); a.End < 0 {
		t.Error("two of three", showAct(a))
	}
	step(t, w, crash(1, -1, 0, false), api.OK)
	if len(w.Down()) != 0 {
		t.Error("Down", w.Down())
	}
	holds(t, w, 1, "k", held(three(), 1, 1, 0, value))
}

func TestNothingOfAStageOrAll(t *testing.T) {
	all := held(one(), 0, 1, 0, "abcd")
	for power := range 12 {
		for keep := 0; keep < 260; keep += 1 + keep/100*8 {
			w := fresh(t, one())
			steps(t, w, crash(0, power, 0, false), put(0, "k", "abcd"))
			settle(t, w)
			ended := w.Acts()[0].End >= 0
			// Two slots, SyncSlots, Append, SyncLog; then Append and SyncLog of the commit.
			if down := len(w.Down()) == 1; down != (power < 7) || ended == down {
				t.Fatalf("the power %d: %v, %v", power, down, ended)
			}
			steps(t, w, crash(0, -1, keep, false, 2))
			got := showHeld(w.Held(0, "k"))
			if ended && got != all || got != all && got != noHold {
				t.Fatalf("the power %d, keep %d: %s", power, keep, got)
			}
			if power < 6 && got != noHold {
				t.Fatalf("the power %d, keep %d: it is committed", power, keep)
			}
			if power == 6 && keep > 200 && got != all {
				t.Fatalf("the power %d, keep %d: it isn't committed", power, keep)
			}
		}
	}
}

func TestCrashWithoutPowerToOpen(t *testing.T) {
	w := fresh(t, one())
	done(t, w, put(0, "k", "abcd"))
	steps(t, w, crash(0, 1, 0, false))
	steps(t, w, remove(0, "k"))
	settle(t, w)
	if !slices.Equal(w.Down(), []int{0}) {
		t.Error("it is up")
	}
	// The end of the log is torn: to open it takes two calls.
	for power := range 2 {
		step(t, w, crash(0, power, 5, false), api.ErrDown)
		if !slices.Equal(w.Down(), []int{0}) {
			t.Error("it is up")
		}
		holds(t, w, 0, "k", noHold)
		step(t, w, ofNode(api.StepScrub, 0), api.ErrDown)
		step(t, w, mend(0, "k"), api.ErrDown)
		step(t, w, api.Step{Kind: api.StepRot, Node: 0, N: 0, M: 0}, api.OK) // the disk is there
		step(t, w, api.Step{Kind: api.StepRot, Node: 0, N: 0, M: 0}, api.OK)
		steps(t, w, ofClient(api.StepAgain, 0))
		settle(t, w)
		if w.Acts()[1].End != -1 {
			t.Error("a node that is down has answered")
		}
	}
	// What was torn is torn for good: the disk is the one that the crash has left.
	step(t, w, crash(0, 1, 0, false), api.ErrDown)
	step(t, w, crash(0, 2, 5, false), api.OK)
	holds(t, w, 0, "k", held(one(), 0, 1, 0, "abcd"))
	step(t, w, crash(0, -1, 0, false), api.OK)
	steps(t, w, ofClient(api.StepAgain, 0))
	settle(t, w)
	if a := w.Acts()[1]; a.End < 0 || a.Result.Tag.N != 2 {
		t.Error("once it is up, what was begun ends", showAct(a))
	}
}

func TestWipe(t *testing.T) {
	w := fresh(t, three())
	done(t, w, put(0, "k", value), put(0, "j", "x"))
	for node := range 3 {
		step(t, w, ofNode(api.StepWipe, node), api.OK)
		holds(t, w, node, "k", noHold)
		// One of the disks is lost: a get finds the value among the symbols of the others.
		if a := done(t, w, get(1, "k")); string(a.Result.Value) != value || !a.Result.Found {
			t.Error("get behind the loss", showAct(a))
		}
		// The get has committed the version, and mending lays the node's share anew.
		if m, syms := w.Held(node, "k"); m.Tag.N != 1 || len(syms) != 0 {
			t.Error("behind the get", m, syms)
		}
		step(t, w, mend(node, "k"), api.OK)
		holds(t, w, node, "k", held(three(), node, 1, 0, value))
		step(t, w, mend(node, "j"), api.ErrNone)
		step(t, w, mend(node, ""), api.ErrKey)
		done(t, w, get(1, "j"))
		step(t, w, mend(node, "j"), api.OK)
	}
	steps(t, w, crash(0, 0, 0, false))
	done(t, w, put(0, "i", "x"))
	step(t, w, ofNode(api.StepWipe, 0), api.OK)
	if len(w.Down()) != 0 {
		t.Error("a new disk has power", w.Down())
	}
	if a := done(t, w, put(0, "i", "y")); a.Result.Code != api.OK {
		t.Error(showAct(a))
	}
	if m, syms := w.Held(0, "i"); m.Tag.N != 4 || len(syms) == 0 {
		t.Error("a new disk takes what comes", m)
	}
}

func TestRotScrubAndMend(t *testing.T) {
	w := fresh(t, three())
	done(t, w, put(0, "k", value))
	whole := func(node int) string { return held(three(), node, 1, 0, value) }
	rot := func(node, slot, bit int) api.Step {
		return api.Step{Kind: api.StepRot, Node: node, N: slot, M: bit}
	}
	for _, n := range []int{-1, 50, math.MinInt64, math.MaxInt64} {
		step(t, w, rot(0, n, 0), api.ErrSlot)
	}
	for _, n := range []int{-1, 32, math.MinInt64, math.MaxInt64} {
		step(t, w, rot(0, 0, n), api.ErrLength)
	}
	step(t, w, rot(0, 49, 0), api.ErrLength)
	for node := range 3 {
		step(t, w, rot(node, 3, 31), api.OK)
		step(t, w, rot(node, 0, 0), api.OK)
		m, syms := w.Held(node, "k")
		if len(syms) != 5 || m.Tag.N != 1 {
			t.Error("what rots isn't told", len(syms))
		}
		if a := done(t, w, get(1, "k")); string(a.Result.Value) != value {
			t.Error("get of what rots", showAct(a))
		}
		step(t, w, ofNode(api.StepScrub, node), api.OK)
		step(t, w, mend(node, "k"), api.OK)
		holds(t, w, node, "k", whole(node))
	}
	// Where too little is left, mending can't help.
	for node := range 3 {
		for slot := range 6 {
			step(t, w, rot(node, slot, 1), api.OK)
		}
		step(t, w, ofNode(api.StepScrub, node), api.OK)
	}
	step(t, w, mend(0, "k"), api.ErrRank)
	if a := done(t, w, get(1, "k")); a.Result.Code != api.ErrRank || a.Result.Found {
		t.Error("get of what is lost", showAct(a))
	}
}

func TestScrubAndMendWithoutPower(t *testing.T) {
	for power := range 3 {
		w := fresh(t, three())
		done(t, w, put(0, "k", value))
		steps(t, w, crash(1, power, 0, false))
		for _, slot := range []int{1, 2} {
			steps(t, w, api.Step{Kind: api.StepRot, Node: 1, N: slot})
		}
		step(t, w, ofNode(api.StepScrub, 1), api.ErrDown)
		if !slices.Equal(w.Down(), []int{1}) {
			t.Error("a node whose power went in scrubbing is up")
		}
		holds(t, w, 1, "k", noHold)
		step(t, w, ofNode(api.StepScrub, 1), api.ErrDown)
		step(t, w, mend(1, "k"), api.ErrDown)
		step(t, w, mend(2, "k"), api.OK)
		done(t, w, get(0, "k"))
		steps(t, w, crash(1, -1, 0, false), ofNode(api.StepScrub, 1), crash(1, power, 0, false))
		step(t, w, mend(1, "k"), api.ErrDown)
		if !slices.Equal(w.Down(), []int{1}) {
			t.Error("a node whose power went in mending is up")
		}
		steps(t, w, crash(1, -1, 0, false), mend(1, "k"))
		holds(t, w, 1, "k", held(three(), 1, 1, 0, value))
	}
}

func TestMendTakesFromNodesThatAreUp(t *testing.T) {
	c := api.Config{Nodes: 3, Write: 3, Read: 1, Clients: 1, T: 4, Slots: 50} // one in common
	for down := range 3 {
		w := fresh(t, c)
		done(t, w, put(0, "k", value))
		steps(t, w, ofNode(api.StepWipe, (down+1)%3))
		steps(t, w, get(0, "k"), deliver(down), deliver(2)) // one that knows the version answers first
		settle(t, w)
		step(t, w, crash(down, 0, 0, false), api.OK)
		steps(t, w, put(0, "j", "x"))
		settle(t, w)
		if !slices.Equal(w.Down(), []int{down}) {
			t.Fatal("Down", w.Down())
		}
		step(t, w, mend((down+1)%3, "k"), api.OK)
		holds(t, w, (down+1)%3, "k", held(c, (down+1)%3, 1, 0, value))
	}
	// Of the symbols of a node that is down none is taken.
	w := fresh(t, api.Config{Nodes: 2, Write: 2, Read: 1, Clients: 2, T: 4, Slots: 50})
	done(t, w, put(0, "k", value))
	steps(t, w, ofNode(api.StepWipe, 1))
	done(t, w, get(0, "k"))
	steps(t, w, crash(0, 0, 0, false), put(0, "j", "x"))
	settle(t, w)
	step(t, w, mend(1, "k"), api.ErrRank)
}

func TestTooFewSlots(t *testing.T) {
	c := three()
	c.Slots = 8
	w := fresh(t, c)
	if a := done(t, w, put(0, "k", value)); a.Result.Code != api.OK {
		t.Error("seven symbols for eight slots", showAct(a))
	}
	a := done(t, w, put(0, "k", strings.ToUpper(value)))
	if a.Result.Code != api.ErrFull || a.End < 0 || a.Result.Tag != (api.Tag{}) {
		t.Error("another seven", showAct(a))
	}
	if a := done(t, w, get(1, "k")); string(a.Result.Value) != value {
		t.Error("the value that was there is told still", showAct(a))
	}
	if a := done(t, w, remove(1, "k"), put(0, "k", "x")); a.Result.Code != api.OK {
		t.Error("behind the end there is room", showAct(a))
	}
}

func TestStagesThatAreNoMessages(t *testing.T) {
	// Each node would get 32 times 33 symbols: more than a message has. It isn't sent.
	c := api.Config{Nodes: 2, Write: 2, Read: 1, Clients: 1, T: 1, Slots: 512}
	w := fresh(t, c)
	steps(t, w, put(0, "k", strings.Repeat("v", 1024)))
	settle(t, w)
	if a := w.Acts()[0]; a.End != -1 || len(w.Flight()) != 0 {
		t.Error(showAct(a))
	}
	steps(t, w, ofClient(api.StepAgain, 0), ofClient(api.StepQuit, 0))
	if len(w.Flight()) != 0 {
		t.Error(w.Flight())
	}
}

func TestAPutWhoseClientQuits(t *testing.T) {
	// It may count later, or never; but once a get told it, every later get tells it.
	for node := range 3 {
		w := fresh(t, three())
		done(t, w, put(0, "k", "old"))
		steps(t, w, put(0, "k", "new"))
		steps(t, w, deliver(0), deliver(0), deliver(0), deliver(0), deliver(0), deliver(0)) // asked
		steps(t, w, deliver(0), deliver(0), deliver(0), deliver(0), deliver(0))             // staged
		if got := w.Flight(); !slices.Equal(got, []int{8, 0, 1, 2}) {
			t.Fatal("the commits aren't on their way", got)
		}
		steps(t, w, ofClient(api.StepQuit, 0), deliver(1+node))
		for len(w.Flight()) > 0 {
			steps(t, w, api.Step{Kind: api.StepLose})
		}
		told := ""
		for round := range 6 {
			a := done(t, w, get(round%2, "k"))
			got := string(a.Result.Value)
			if got != "old" && got != "new" || told == "new" && got != "new" {
				t.Error("gets", told, showAct(a))
			}
			told = got
		}
		if w.Acts()[1].End != -1 {
			t.Error("the act of a client that quit has ended")
		}
	}
}

// TestOnceAllIsUpWhatIsBegunEnds: whatever happened, once all nodes are up and all datagrams come, what is begun ends.
func TestOnceAllIsUpWhatIsBegunEnds(t *testing.T) {
	r := rand.New(rand.NewSource(1))
	for round := range 60 {
		c := api.Config{Nodes: 1 + r.Intn(5), Clients: 2, T: 1 + r.Intn(30), Slots: 200}
		c.Write = 1 + r.Intn(c.Nodes)
		c.Read = c.Nodes - c.Write + 1
		w := fresh(t, c)
		for range 120 {
			n := max(1, len(w.Flight()))
			switch r.Intn(12) {
			case 0:
				w.Do(put(r.Intn(2), "k", strings.Repeat("v", 1+r.Intn(40))))
			case 1:
				w.Do(get(r.Intn(2), "k"))
			case 2:
				w.Do(remove(r.Intn(2), "k"))
			case 3:
				w.Do(crash(r.Intn(c.Nodes), r.Intn(30)-5, r.Intn(200), r.Intn(2) == 0, r.Intn(3)))
			case 4:
				w.Do(api.Step{Kind: api.StepLose, N: r.Intn(n)})
			case 5:
				w.Do(api.Step{Kind: api.StepDouble, N: r.Intn(n)})
			default:
				w.Do(deliver(r.Intn(n)))
			}
		}
		for node := range c.Nodes {
			step(t, w, crash(node, -1, 0, true), api.OK)
		}
		if len(w.Down()) != 0 {
			t.Error("Down", w.Down())
		}
		for range 3 {
			for client := range 2 {
				step(t, w, ofClient(api.StepAgain, client), api.OK)
			}
			settle(t, w)
		}
		for client := range 2 {
			if err := w.Do(ofClient(api.StepQuit, client)); err != api.ErrStep {
				t.Errorf("round %d, %+v: the client %d is still busy", round, c, client)
			}
		}
	}
}

// TestTheSameStepsComeToTheSameEnd: nothing but the steps plays a part.
func TestTheSameStepsComeToTheSameEnd(t *testing.T) {
	r := rand.New(rand.NewSource(3))
	for range 20 {
		var script []api.Step
		for range 300 {
			s := deliver(r.Intn(6))
			switch r.Intn(8) {
			case 0:
				s = put(r.Intn(2), string(rune('a'+r.Intn(9))), fmt.Sprint(r.Intn(1000)))
			case 1:
				s = api.Step{Kind: 1 + r.Intn(14), Client: r.Intn(2), Node: r.Intn(3), N: r.Intn(90), M: r.Intn(32), Key: "a", Value: []byte("v"), Fate: api.Fate{Keep: r.Intn(99), Slots: []int{1, 2}}}
			}
			script = append(script, s)
		}
		ends := []string{}
		for range 3 {
			w := fresh(t, three())
			end := fmt.Sprint(w.Play(script...), w.Flight(), w.Down())
			for _, a := range w.Acts() {
				end += showAct(a)
			}
			for node := range 3 {
				for key := 'a'; key <= 'i'; key++ {
					end += showHeld(w.Held(node, string(key)))
				}
			}
			ends = append(ends, end)
		}
		if ends[0] != ends[1] || ends[0] != ends[2] {
			t.Fatal("the same steps have come to other ends")
		}
	}
}

// apart: does no list share memory with another, spare room included?
func apart(lists ...[]byte) bool {
	for i, a := range lists {
		for _, b := range lists[:i] {
			x, y := uintptr(unsafe.Pointer(unsafe.SliceData(a))), uintptr(unsafe.Pointer(unsafe.SliceData(b)))
			if x < y+uintptr(cap(b)) && y < x+uintptr(cap(a)) {
				return false
			}
		}
	}
	return true
}

func TestListsAreLeftAndAnswersAreNew(t *testing.T) {
	w, other := fresh(t, three()), fresh(t, three())
	s := put(0, "k", value)
	done(t, w, s)
	if string(s.Value) != value {
		t.Error("what was handed in has changed")
	}
	clear(s.Value)
	f := crash(1, -1, 5, false, 1, 2)
	steps(t, w, f)
	if !slices.Equal(f.Fate.Slots, []int{1, 2}) {
		t.Error("what was handed in has changed")
	}
	done(t, w, get(1, "k"), ofClient(api.StepList, 0))
	before := ""
	var lists [][]byte
	for round := range 2 {
		all := ""
		for _, a := range w.Acts() {
			all += showAct(a)
			lists = append(lists, a.Value, a.Result.Value)
			for i := range a.Result.Keys {
				a.Result.Keys[i] = "?"
			}
		}
		for node := range 3 {
			m, syms := w.Held(node, "k")
			all += showHeld(m, syms)
			lists = append(lists, m.Sum)
			for _, sym := range syms {
				lists = append(lists, sym.Data)
			}
		}
		if before = all; round == 1 && all != before {
			t.Error("the world has kept what was answered")
		}
		if !strings.Contains(all, value) {
			t.Error("the world has kept what was handed in", all)
		}
	}
	if !apart(append(lists, s.Value)...) {
		t.Error("an answer shares memory")
	}
	for _, list := range lists {
		clear(list[:cap(list)])
	}
	acts := w.Acts()
	acts[0].Key = "?"
	if a := w.Acts(); a[0].Key != "k" || string(a[0].Value) != value || string(a[1].Result.Value) != value || !slices.Equal(a[2].Result.Keys, []string{"k"}) {
		t.Error("the world has kept what was answered", a)
	}
	holds(t, w, 0, "k", held(three(), 0, 1, 0, value))
	if len(other.Acts())+len(other.Flight()) != 0 || showHeld(other.Held(0, "k")) != noHold {
		t.Error("two worlds have something in common")
	}
}

package judge_test

import (
	"bytes"
	"fmt"
	"math"
	"math/rand"
	"slices"
	"testing"

	"rill/api"
	"rill/judge"
	"rill/world"
)

func put(key, value string, start, end int) api.Act {
	return api.Act{Do: api.DoPut, Key: key, Value: []byte(value), Start: start, End: end}
}

func remove(key string, start, end int) api.Act {
	return api.Act{Do: api.DoDelete, Key: key, Start: start, End: end}
}

func found(key, value string, start, end int) api.Act {
	return api.Act{Do: api.DoGet, Key: key, Start: start, End: end, Result: api.Result{Found: true, Value: []byte(value)}}
}

func missed(key string, start, end int) api.Act {
	return api.Act{Do: api.DoGet, Key: key, Start: start, End: end}
}

// failed: the act has ended with an error.
func failed(a api.Act) api.Act {
	a.Result.Code = api.ErrFull
	return a
}

// fits is the chapter's definition, word by word.
func fits(acts []api.Act, key string, order []int) bool {
	must := map[int]bool{}
	may := map[int]bool{}
	for i, a := range acts {
		if a.Key != key {
			continue
		}
		switch a.Do {
		case api.DoGet:
			if a.End >= 0 && a.Result.Code == api.OK {
				must[i] = true
			}
		case api.DoPut, api.DoDelete:
			if a.End >= 0 && a.Result.Code == api.OK {
				must[i] = true
			} else {
				may[i] = true
			}
		}
	}
	if len(must)+len(may) > 12 {
		return false
	}
	for i, place := range order {
		if !must[place] && !may[place] || slices.Contains(order[:i], place) {
			return false
		}
		for _, ahead := range order[:i] {
			if acts[place].End >= 0 && acts[place].End < acts[ahead].Start {
				return false
			}
		}
	}
	made, value := false, []byte(nil)
	for _, place := range order {
		switch a := acts[place]; a.Do {
		case api.DoPut:
			made, value = true, a.Value
		case api.DoDelete:
			made = false
		default:
			if a.Result.Found != made || made && !bytes.Equal(a.Result.Value, value) {
				return false
			}
		}
	}
	for i := range must {
		if !slices.Contains(order, i) {
			return false
		}
	}
	return true
}

// rows are all rows of numbers below n, each once at most.
func rows(n int) [][]int {
	all := [][]int{{}}
	for i := 0; i < len(all); i++ {
		for next := range n {
			if !slices.Contains(all[i], next) {
				all = append(all, append(slices.Clone(all[i]), next))
			}
		}
	}
	return all
}

// judged: is the history whole, and do all calls say so?
func judged(t *testing.T, name string, whole bool, acts ...api.Act) {
	t.Helper()
	if got := judge.Whole(acts); got != whole {
		t.Errorf("%s: Whole is %v", name, got)
	}
	if err := judge.Check(acts); err != api.OK {
		t.Errorf("%s: Check: %v", name, err)
	}
	all := true
	for _, key := range judge.Keys(acts) {
		order, there := judge.Order(acts, key)
		if all = all && there; there && (!fits(acts, key, order) || !judge.Fits(acts, key, order)) || !there && len(order) != 0 {
			t.Errorf("%s: Order(%q) = %v, %v", name, key, order, there)
		}
	}
	if all != whole {
		t.Errorf("%s: not of each key there is an order", name)
	}
}

func TestExamples(t *testing.T) {
	first := put("k", "a", 0, 5)
	judged(t, "the first example", true, first, missed("k", 2, 3), found("k", "a", 4, 6))
	judged(t, "a get too late", false, first, missed("k", 2, 3), missed("k", 7, 9))
	open := put("k", "a", 0, -1)
	judged(t, "a put that never ended", true, open, found("k", "a", 4, 6))
	judged(t, "and then none", false, open, found("k", "a", 4, 6), missed("k", 7, 9))
	judged(t, "the document's example", false, first, missed("k", 7, 9))
}

func TestHistories(t *testing.T) {
	judged(t, "nothing", true)
	judged(t, "a list", true, api.Act{Do: api.DoList, Start: 3, End: 4, Result: api.Result{Keys: []string{"k"}}})
	judged(t, "a get of nothing", true, missed("k", 0, 1))
	judged(t, "a get of what was never put", false, found("k", "a", 0, 1))
	judged(t, "a get that failed", true, failed(found("k", "a", 0, 1)))
	judged(t, "a get that hasn't ended", true, found("k", "a", 0, -1))
	judged(t, "another key's value", false, put("j", "a", 0, 1), found("k", "a", 2, 3))
	judged(t, "another value", false, put("k", "a", 0, 1), found("k", "b", 2, 3))
	judged(t, "an elder value", false, put("k", "a", 0, 1), put("k", "b", 2, 3), found("k", "a", 4, 5))
	judged(t, "either value", true, put("k", "a", 0, 3), put("k", "b", 2, 5), found("k", "a", 6, 7))
	judged(t, "either value, but one", false, put("k", "a", 0, 3), put("k", "b", 2, 5), found("k", "a", 6, 7), found("k", "b", 8, 9))
	judged(t, "both at one time", true, put("k", "a", 0, 3), put("k", "b", 2, 9), found("k", "a", 4, 5), found("k", "b", 6, 7))
	judged(t, "behind an end", true, put("k", "a", 0, 1), remove("k", 2, 3), missed("k", 4, 5))
	judged(t, "found behind an end", false, put("k", "a", 0, 1), remove("k", 2, 3), found("k", "a", 4, 5))
	judged(t, "an end that failed", true, put("k", "a", 0, 1), failed(remove("k", 2, 3)), missed("k", 4, 5))
	judged(t, "an end that failed, or not", true, put("k", "a", 0, 1), failed(remove("k", 2, 3)), found("k", "a", 4, 5))
	judged(t, "a put that failed", true, failed(put("k", "a", 0, 1)), missed("k", 2, 3))
	judged(t, "a put that failed and counts", true, failed(put("k", "a", 0, 1)), found("k", "a", 2, 3))
	judged(t, "a put that failed doesn't count later than it ended", false, failed(put("k", "a", 0, 1)), missed("k", 2, 3), found("k", "a", 4, 5))
	judged(t, "one that never ended does", true, put("k", "a", 0, -1), missed("k", 2, 3), found("k", "a", 4, 5))
	judged(t, "a put that had ended can't stand behind what began later", false, failed(put("k", "a", 0, 1)), put("k", "b", 2, 3), found("k", "a", 4, 5))
	judged(t, "one that never ended can", true, put("k", "a", 0, -1), put("k", "b", 2, 3), found("k", "a", 4, 5))
	judged(t, "a put that ended too late", false, found("k", "a", 0, 1), put("k", "a", 2, 3))
	judged(t, "a put that begins with the get's end", true, found("k", "a", 0, 2), put("k", "a", 2, 3))
	judged(t, "an empty value", true, put("k", "", 0, 1), found("k", "", 2, 3))
	judged(t, "an empty value isn't none", false, put("k", "", 0, 1), missed("k", 2, 3))
	judged(t, "the same value twice", true, put("k", "a", 0, 1), remove("k", 2, 3), put("k", "a", 4, 5), found("k", "a", 6, 7))
	judged(t, "one of two keys", false, put("k", "a", 0, 1), found("k", "a", 2, 3), put("j", "a", 0, 1), missed("j", 2, 3))
	judged(t, "what a get that isn't found says", true, api.Act{Do: api.DoGet, Key: "k", Start: 0, End: 1, Result: api.Result{Value: []byte("x")}})
	judged(t, "other things", true, api.Act{Do: 0, Key: "k", End: 1}, api.Act{Do: 5, Key: "k", End: 1, Result: api.Result{Found: true}})
}

func TestKeys(t *testing.T) {
	acts := []api.Act{put("b", "", 0, 1), missed("a", 5, -1), failed(remove("\xff", 0, 1)), put("b", "", 0, -1), {Do: api.DoList, Key: "list"}, {Do: 0, Key: "none"}, {Do: 5, Key: "other"}, remove("", 0, 1), failed(found("c", "", 0, 1)), put("aa", "", 9, 3)}
	if got := judge.Keys(acts); !slices.Equal(got, []string{"", "a", "aa", "b", "c", "\xff"}) {
		t.Errorf("%q", got)
	}
	if len(judge.Keys(nil)) != 0 || len(judge.Keys(acts[4:7])) != 0 {
		t.Error("keys of nothing")
	}
}

func TestCheck(t *testing.T) {
	times := func(n int, a api.Act) []api.Act { return slices.Repeat([]api.Act{a}, n) }
	for i, c := range []struct {
		acts []api.Act
		want api.Errno
	}{
		{nil, api.OK},
		{[]api.Act{put("k", "", 0, 0)}, api.OK},
		{[]api.Act{put("k", "", 5, 5)}, api.OK},
		{[]api.Act{put("k", "", 5, -1)}, api.OK},
		{[]api.Act{put("k", "", 5, math.MinInt64)}, api.OK},
		{[]api.Act{put("k", "", 0, math.MaxInt64)}, api.OK},
		{[]api.Act{put("k", "", 5, 4)}, api.ErrStep},
		{[]api.Act{put("k", "", 1, 0)}, api.ErrStep},
		{[]api.Act{put("k", "", -1, 4)}, api.ErrStep},
		{[]api.Act{put("k", "", -1, -1)}, api.ErrStep},
		{[]api.Act{put("k", "", math.MinInt64, -1)}, api.ErrStep},
		{[]api.Act{missed("k", 0, 1), {Do: api.DoList, Start: 5, End: 4}}, api.ErrStep},
		{[]api.Act{missed("k", 0, 1), {Do: 77, Start: -5, End: 4}}, api.ErrStep},
		{times(12, put("k", "", 0, 1)), api.OK},
		{times(13, put("k", "", 0, 1)), api.ErrMany},
		{times(13, put("k", "", 0, -1)), api.ErrMany},
		{times(13, failed(remove("k", 0, 1))), api.ErrMany},
		{times(13, missed("k", 0, 1)), api.ErrMany},
		{times(50, missed("k", 0, -1)), api.OK},
		{times(50, failed(missed("k", 0, 1))), api.OK},
		{times(50, api.Act{Do: api.DoList, Key: "k"}), api.OK},
		{append(times(12, put("k", "", 0, 1)), times(12, put("j", "", 0, 1))...), api.OK},
		{append(times(12, put("k", "", 0, 1)), failed(missed("k", 0, 1)), missed("k", 0, -1)), api.OK},
		{append(times(12, put("k", "", 0, 1)), missed("k", 0, 1)), api.ErrMany},
		{append(times(13, put("k", "", 0, 1)), put("j", "", 5, 4)), api.ErrStep},
	} {
		if got := judge.Check(c.acts); got != c.want {
			t.Errorf("case %d: %v, not %v", i, got, c.want)
		}
		if c.want != api.OK {
			if order, there := judge.Order(c.acts, "other key"); there || len(order) != 0 || judge.Fits(c.acts, "other key", nil) || judge.Whole(c.acts) {
				t.Errorf("case %d: what can't be looked at", i)
			}
		}
	}
}

func TestOrderOfAKeyWithoutActs(t *testing.T) {
	acts := []api.Act{put("k", "a", 0, 1), failed(missed("j", 0, 1))}
	for _, key := range []string{"", "j", "other"} {
		if order, there := judge.Order(acts, key); !there || len(order) != 0 || !judge.Fits(acts, key, nil) || judge.Fits(acts, key, []int{0}) {
			t.Errorf("Order(%q) = %v, %v", key, order, there)
		}
	}
}

func TestFits(t *testing.T) {
	acts := []api.Act{put("k", "a", 0, 5), missed("k", 2, 3), put("j", "a", 0, 1), found("k", "a", 4, 6), put("k", "b", 5, -1), {Do: api.DoList, Key: "k"}, failed(missed("k", 0, 1))}
	for _, c := range []struct {
		order []int
		want  bool
	}{
		{[]int{1, 0, 3}, true},
		{[]int{1, 0, 3, 4}, true},
		{[]int{1, 4, 0, 3}, true},
		{[]int{1, 0, 4, 3}, false},
		{[]int{0, 1, 3}, false},
		{[]int{1, 0}, false},
		{[]int{1, 3}, false},
		{[]int{1, 0, 3, 3}, false},
		{[]int{1, 0, 0, 3}, false},
		{[]int{1, 0, 3, 2}, false},
		{[]int{1, 0, 3, 5}, false},
		{[]int{6, 1, 0, 3}, false},
		{[]int{1, 0, 3, 7}, false},
		{[]int{1, 0, 3, -1}, false},
		{[]int{math.MinInt64, 1, 0, 3}, false},
		{[]int{math.MaxInt64, 1, 0, 3}, false},
		{nil, false},
	} {
		if got := judge.Fits(acts, "k", c.order); got != c.want {
			t.Errorf("Fits(%v) = %v", c.order, got)
		}
	}
}

// history is a few acts at random, of two values and times that overlap.
func history(r *rand.Rand, n int) []api.Act {
	var acts []api.Act
	for range n {
		start := r.Intn(8)
		end := start + r.Intn(5)
		value := []string{"a", "b"}[r.Intn(2)]
		if r.Intn(6) == 0 {
			end = -1
		}
		var a api.Act
		switch r.Intn(6) {
		case 0, 1:
			a = put("k", value, start, end)
		case 2:
			a = remove("k", start, end)
		case 3:
			a = missed("k", start, end)
		default:
			a = found("k", value, start, end)
		}
		if r.Intn(6) == 0 {
			a = failed(a)
		}
		acts = append(acts, a)
	}
	return acts
}

func TestAllRowsOfSmallHistories(t *testing.T) {
	r := rand.New(rand.NewSource(1))
	count := map[bool]int{}
	for range 3000 {
		acts := history(r, 1+r.Intn(4))
		whole := false
		for _, order := range rows(len(acts)) {
			want := fits(acts, "k", order)
			if whole = whole || want; judge.Fits(acts, "k", order) != want {
				t.Fatalf("Fits(%+v, %v) = %v", acts, order, !want)
			}
		}
		if count[whole]++; judge.Whole(acts) != whole {
			t.Fatalf("Whole(%+v) = %v", acts, !whole)
		}
		judged(t, "a small history", whole, acts...)
	}
	if count[true] < 300 || count[false] < 300 {
		t.Error("the sweep is one-sided", count)
	}
}

func TestGreatHistories(t *testing.T) {
	r := rand.New(rand.NewSource(2))
	for range 300 {
		// What was done one thing at a time, with times about that.
		var acts []api.Act
		made, value := false, ""
		for i := range 12 {
			start, end := max(0, 10*i-r.Intn(40)), 10*i+r.Intn(40)
			switch r.Intn(5) {
			case 0, 1:
				value, made = fmt.Sprint(r.Intn(3)), true
				acts = append(acts, put("k", value, start, end))
			case 2:
				made = false
				acts = append(acts, remove("k", start, end))
			default:
				if made {
					acts = append(acts, found("k", value, start, end))
				} else {
					acts = append(acts, missed("k", start, end))
				}
			}
		}
		r.Shuffle(len(acts), func(i, j int) { acts[i], acts[j] = acts[j], acts[i] })
		judged(t, "a great history", true, acts...)
	}
	// All at one time, and a get of a value that nobody put: the search must go through all states.
	var acts []api.Act
	for i := range 11 {
		acts = append(acts, put("k", fmt.Sprint(i), 0, 100))
	}
	judged(t, "a value that nobody put", false, append(acts, found("k", "x", 0, 100))...)
	judged(t, "a value that one put", true, append(acts, found("k", "7", 0, 100))...)
	// Many keys.
	var many []api.Act
	for i := range 3000 {
		key := fmt.Sprint(i % 1000)
		many = append(many, []api.Act{put(key, "a", 0, 5), missed(key, 2, 3), found(key, "a", 4, 6)}[i/1000])
	}
	if !judge.Whole(many) || len(judge.Keys(many)) != 1000 {
		t.Error("many keys")
	}
	if judge.Whole(append(many, missed("999", 7, 8))) {
		t.Error("one of many keys")
	}
}

func TestOrderIsAlwaysTheSame(t *testing.T) {
	var acts []api.Act
	for i := range 10 {
		acts = append(acts, put("k", fmt.Sprint(i%3), 0, 100), missed(fmt.Sprint("other ", i), 0, 1))
	}
	first, there := judge.Order(acts, "k")
	for range 50 {
		if again, ok := judge.Order(acts, "k"); !there || !ok || !slices.Equal(again, first) {
			t.Fatal("Order", first, again)
		}
	}
}

func TestListsAreLeftAndAnswersAreNew(t *testing.T) {
	acts := []api.Act{put("k", "a", 0, 5), missed("k", 2, 3), found("k", "a", 4, 6), put("z", "", 9, 1)}
	before := fmt.Sprint(acts)
	row := []int{1, 0, 2, 99}
	one, _ := judge.Order(acts[:3], "k")
	keys := judge.Keys(acts[:3])
	judge.Check(acts[:3])
	judge.Whole(acts[:3])
	if !judge.Fits(acts[:3], "k", row[:3]) || fmt.Sprint(acts) != before || !slices.Equal(row, []int{1, 0, 2, 99}) {
		t.Error("what was handed in has changed", acts, row)
	}
	clear(one[:cap(one)])
	clear(keys[:cap(keys)])
	if two, _ := judge.Order(acts[:3], "k"); !slices.Equal(two, []int{1, 0, 2}) || !slices.Equal(judge.Keys(acts[:3]), []string{"k"}) {
		t.Error("answers aren't new", two)
	}
}

// TestWorldsAreSafe: as long as no disk is lost, what clients of a world did could have been done one thing at a time.
func TestWorldsAreSafe(t *testing.T) {
	ended := 0
	for seed := range 150 {
		r := rand.New(rand.NewSource(int64(seed)))
		c := api.Config{Nodes: 1 + r.Intn(5), Clients: 1 + r.Intn(4), T: 1 + r.Intn(8), Slots: 150}
		c.Write = 1 + r.Intn(c.Nodes)
		c.Read = c.Nodes - c.Write + 1 + r.Intn(c.Write)
		w, err := world.New(c)
		if err != api.OK {
			t.Fatal(err)
		}
		keys := []string{"a", "b"}
		for step := range 600 {
			n, client, node, key := max(1, len(w.Flight())), r.Intn(c.Clients), r.Intn(c.Nodes), keys[r.Intn(2)]
			s := api.Step{Kind: api.StepDeliver, N: r.Intn(n)}
			switch r.Intn(60) {
			case 0, 1:
				s = api.Step{Kind: api.StepPut, Client: client, Key: key, Value: []byte(fmt.Sprint("value ", step))}
			case 2, 3, 4:
				s = api.Step{Kind: api.StepGet, Client: client, Key: key}
			case 5:
				s = api.Step{Kind: api.StepDelete, Client: client, Key: key}
			case 6:
				s = api.Step{Kind: api.StepQuit, Client: client}
			case 7, 8:
				s = api.Step{Kind: api.StepAgain, Client: client}
			case 9, 10:
				s = api.Step{Kind: api.StepLose, N: r.Intn(n)}
			case 11, 12:
				s = api.Step{Kind: api.StepDouble, N: r.Intn(n)}
			case 13, 14:
				s = api.Step{Kind: api.StepCrash, Node: node, N: r.Intn(60) - 20, Fate: api.Fate{Keep: r.Intn(200), Reset: r.Intn(2) == 0, Slots: []int{r.Intn(3), r.Intn(3)}}}
			case 15:
				s = api.Step{Kind: api.StepScrub, Node: node}
			case 16:
				s = api.Step{Kind: api.StepMend, Node: node, Key: key}
			}
			count := 0
			for _, a := range w.Acts() {
				if a.Key == key {
					count++
				}
			}
			if s.Kind <= api.StepDelete && count >= 12 {
				continue
			}
			w.Do(s)
		}
		acts := w.Acts()
		if !judge.Whole(acts) {
			t.Errorf("the world %d, %+v, isn't safe: %+v", seed, c, acts)
		}
		for _, a := range acts {
			if a.End >= 0 && a.Result.Code == api.OK {
				ended++
			}
		}
	}
	if ended < 1000 {
		t.Error("too little has ended:", ended)
	}
}

package tally_test

import (
	"fmt"
	"math"
	"math/rand"
	"slices"
	"testing"

	"rill/tally"
)

// show tells all of a tally.
func show(t *tally.Tally) string {
	yes, no := t.Count()
	return fmt.Sprint(yes, no, t.Done(), t.Lost(), t.Waiting())
}

func expect(t *testing.T, got *tally.Tally, want string) {
	t.Helper()
	if show(got) != want {
		t.Errorf("%s, not %s", show(got), want)
	}
}

func TestExample(t *testing.T) {
	one, two := tally.New(3, 2), tally.New(3, 2)
	for _, x := range []*tally.Tally{one, two} {
		expect(t, x, "0 0 false false [0 1 2]")
		x.Yes(1, 1)
		x.No(0)
		expect(t, x, "1 1 false false [2]")
	}
	one.No(2)
	expect(t, one, "1 2 false true []")
	two.Yes(2)
	expect(t, two, "2 1 true false []")
}

func TestHowManyNodes(t *testing.T) {
	for _, c := range []struct{ nodes, have int }{
		{0, 0}, {-1, 0}, {math.MinInt64, 0}, {1, 1}, {7, 7}, {8, 8}, {9, 8}, {math.MaxInt64, 8},
	} {
		x := tally.New(c.nodes, 1)
		var all []int
		for node := range c.have {
			all = append(all, node)
		}
		if !slices.Equal(x.Waiting(), all) || x.Done() || x.Lost() != (c.have == 0) {
			t.Errorf("New(%d, 1): %s", c.nodes, show(x))
		}
		x.Yes(-1, c.have, c.have+1, 99, math.MinInt64, math.MaxInt64)
		x.No(-1, c.have, c.have+1, 99, math.MinInt64, math.MaxInt64)
		if !slices.Equal(x.Waiting(), all) {
			t.Errorf("numbers that are no node's: %s", show(x))
		}
		x.Yes(all...)
		x.No(all...)
		if yes, no := x.Count(); yes != c.have || no != 0 || len(x.Waiting()) != 0 || x.Done() != (c.have > 0) {
			t.Errorf("all say yes: %s", show(x))
		}
	}
}

func TestHowManyAreNeeded(t *testing.T) {
	for _, need := range []int{math.MinInt64, -1, 0} {
		x := tally.New(2, need)
		expect(t, x, "0 0 true false [0 1]")
		x.No(0, 1)
		expect(t, x, "0 2 true false []")
	}
	for _, need := range []int{3, 9, math.MaxInt64} {
		x := tally.New(2, need)
		expect(t, x, "0 0 false true [0 1]")
		x.Yes(0, 1)
		expect(t, x, "2 0 false true []")
	}
	x := tally.New(2, 2)
	x.Yes(0)
	expect(t, x, "1 0 false false [1]")
	x.Yes(1)
	expect(t, x, "2 0 true false []")
}

func TestTheFirstAnswerCounts(t *testing.T) {
	x := tally.New(4, 2)
	x.Yes()
	x.No()
	expect(t, x, "0 0 false false [0 1 2 3]")
	x.No(2)
	x.Yes(2, 3, 2)
	x.No(3, 3)
	expect(t, x, "1 1 false false [0 1]")
	x.Yes(0)
	x.No(1, 0)
	expect(t, x, "2 2 true false []")
}

func TestManyAnswers(t *testing.T) {
	r := rand.New(rand.NewSource(1))
	for range 2000 {
		nodes, need := r.Intn(9), r.Intn(10)
		x, other := tally.New(nodes, need), tally.New(nodes, need)
		said := map[int]string{}
		for range 14 {
			answers := []int{r.Intn(10) - 1, r.Intn(10) - 1}[:r.Intn(3)]
			saying := []string{"yes", "no"}[r.Intn(2)]
			given := slices.Clone(answers)
			if saying == "yes" {
				x.Yes(given...)
			} else {
				x.No(given...)
			}
			if !slices.Equal(given, answers) {
				t.Fatal("what was handed in has changed", given)
			}
			for _, node := range answers {
				if node >= 0 && node < nodes && said[node] == "" {
					said[node] = saying
				}
			}
			var waiting []int
			count := map[string]int{}
			for node := range nodes {
				if count[said[node]]++; said[node] == "" {
					waiting = append(waiting, node)
				}
			}
			want := fmt.Sprint(count["yes"], count["no"], count["yes"] >= need, count["yes"]+count[""] < need, waiting)
			if show(x) != want {
				t.Fatalf("New(%d, %d): %s, not %s", nodes, need, show(x), want)
			}
		}
		if yes, no := other.Count(); yes+no != 0 {
			t.Fatal("two tallies have something in common")
		}
	}
}

func TestWaitingIsNew(t *testing.T) {
	x := tally.New(8, 2)
	waiting := x.Waiting()
	clear(waiting[:cap(waiting)])
	expect(t, x, "0 0 false false [0 1 2 3 4 5 6 7]")
}

package tuple_test

import (
	"math"
	"math/big"
	"math/rand"
	"testing"

	"rill/api"
	"rill/tuple"
)

var outermost = []int{math.MinInt64, math.MinInt64 + 1, math.MinInt32, -2, -1, 0, 1, 2, 1<<31 - 1, 1 << 31, 1<<32 - 1, 1 << 32, 1<<32 + 1, math.MaxInt64 - 1, math.MaxInt64}

func primes(below int) []int {
	var found []int
	for n := 2; n < below; n++ {
		if big.NewInt(int64(n)).ProbablyPrime(0) {
			found = append(found, n)
		}
	}
	return found
}

func params(k int) api.Code {
	c := api.Code{K: k, H: 4}
	for c.Kp < k {
		c.Kp += 4
	}
	for _, p := range primes(100) {
		if c.S == 0 && p >= 2+c.Kp/4 {
			c.S = p
		}
	}
	c.L = c.Kp + c.S + c.H
	for _, p := range primes(100) {
		if p <= c.Kp+c.S {
			c.W = p
		}
	}
	c.P, c.B = c.L-c.W, c.W-c.S
	for _, p := range primes(100) {
		if c.P1 == 0 && p >= c.P {
			c.P1 = p
		}
	}
	if k <= 4 {
		c.J = 2
	}
	return c
}

func TestParams(t *testing.T) {
	for k := 1; k <= 32; k++ {
		if got, err := tuple.Params(k); got != params(k) || err != api.OK {
			t.Errorf("Params(%d) = %+v, %v, not %+v", k, got, err, params(k))
		}
	}
	if got, _ := tuple.Params(1); got != (api.Code{K: 1, Kp: 4, S: 3, H: 4, L: 11, W: 7, P: 4, P1: 5, B: 4, J: 2}) {
		t.Errorf("Params(1) = %+v", got)
	}
	if got, _ := tuple.Params(32); got != (api.Code{K: 32, Kp: 32, S: 11, H: 4, L: 47, W: 43, P: 4, P1: 5, B: 32}) {
		t.Errorf("Params(32) = %+v", got)
	}
	for _, k := range append([]int{33, 34, 64}, outermost...) {
		if k == 1 || k == 2 {
			continue
		}
		if got, err := tuple.Params(k); got != (api.Code{}) || err != api.ErrSize {
			t.Errorf("Params(%d) = %+v, %v", k, got, err)
		}
	}
}

// mixed works with whole numbers without a bound.
func mixed(y, i, m int) int {
	if m < 1 {
		return 0
	}
	word := new(big.Int).Lsh(big.NewInt(1), 32)
	times := func(a *big.Int, b int64) *big.Int { return new(big.Int).Mul(a, big.NewInt(b)) }
	wrap := func(a *big.Int) *big.Int { return new(big.Int).Mod(a, word) }
	laid := func(a *big.Int, by uint) *big.Int { return new(big.Int).Xor(a, new(big.Int).Rsh(a, by)) }
	z := times(big.NewInt(int64(y)), 2654435761)
	z.Add(z, times(big.NewInt(int64(i)), 2246822507))
	z = laid(wrap(z.Add(z, big.NewInt(668265263))), 15)
	z = laid(wrap(times(z, 739982445)), 12)
	z = laid(wrap(times(z, 695872825)), 15)
	return int(z.Mod(z, big.NewInt(int64(m))).Int64())
}

func TestRand(t *testing.T) {
	for _, y := range outermost {
		for _, i := range outermost {
			for _, m := range append([]int{3, 5, 43, 1 << 20}, outermost...) {
				if got, want := tuple.Rand(y, i, m), mixed(y, i, m); got != want {
					t.Fatalf("Rand(%d, %d, %d) = %d, not %d", y, i, m, got, want)
				}
			}
		}
	}
	r := rand.New(rand.NewSource(1))
	for round := 0; round < 3000; round++ {
		y, i, m := int(r.Uint64()), r.Intn(6), 1+r.Intn(1<<20)
		if got, want := tuple.Rand(y, i, m), mixed(y, i, m); got != want {
			t.Fatalf("Rand(%d, %d, %d) = %d, not %d", y, i, m, got, want)
		}
	}
}

var bounds = []int{5243, 529531, 704294, 791675, 844104, 879057, 904023, 922747, 937311, 948962, 958494, 966438, 973160, 978921, 983914, 988283, 992138, 995565, 998631, 1001391, 1003887, 1006157, 1008229, 1010129, 1011876, 1013490, 1014983, 1016370, 1017662, 1048576}

// degree is of v alone, for a w that doesn't matter.
func degree(v int) int {
	d := 1
	for _, bound := range bounds {
		if v >= bound {
			d++
		}
	}
	return min(d, 30)
}

func TestDegree(t *testing.T) {
	var vs []int
	for _, bound := range bounds {
		vs = append(vs, bound-1, bound, bound+1)
	}
	for _, v := range append(vs, outermost...) {
		for w := -5; w < 50; w++ {
			if got, want := tuple.Degree(v, w), max(1, min(degree(v), w-2)); got != want {
				t.Fatalf("Degree(%d, %d) = %d, not %d", v, w, got, want)
			}
		}
		for _, w := range []int{math.MaxInt64, math.MaxInt64 - 1, 1 << 40} {
			if got := tuple.Degree(v, w); got != degree(v) {
				t.Fatalf("Degree(%d, %d) = %d, not %d", v, w, got, degree(v))
			}
		}
		for _, w := range []int{math.MinInt64, math.MinInt64 + 1, math.MinInt64 + 2, math.MinInt64 + 31, -1 << 40} {
			if got := tuple.Degree(v, w); got != 1 {
				t.Fatalf("Degree(%d, %d) = %d, not 1", v, w, got)
			}
		}
	}
	for _, c := range []struct{ v, w, want int }{{0, 43, 1}, {5242, 43, 1}, {5243, 43, 2}, {1048575, 43, 30}, {1048576, 43, 30}, {1048575, 7, 5}} {
		if got := tuple.Degree(c.v, c.w); got != c.want {
			t.Errorf("Degree(%d, %d) = %d, not %d", c.v, c.w, got, c.want)
		}
	}
}

func tupleOf(k, x int) api.Tuple {
	c := params(k)
	a, b := 53591, 10267 // of J 0
	if c.J == 2 {
		a, b = 55585, 30801
	}
	y := (b + a*x) % (1 << 32)
	t := api.Tuple{D: max(1, min(degree(mixed(y, 0, 1048576)), c.W-2)), D1: 2}
	t.A, t.B = 1+mixed(y, 1, c.W-1), mixed(y, 2, c.W)
	if t.D < 4 {
		t.D1 = 2 + mixed(x, 3, 2)
	}
	t.A1, t.B1 = 1+mixed(x, 4, c.P1-1), mixed(x, 5, c.P1)
	return t
}

func TestTuple(t *testing.T) {
	for k := 1; k <= 32; k++ {
		for _, x := range []int{0, 1, 2, 3, 7, 31, 32, 33, 100, 1000, 65535, 65536, 77265, 80144, 1 << 20, 1<<24 - 1, 1 << 24, 1<<24 + 1, 1<<24 + 2, 1<<24 + 3} {
			if got, err := tuple.Tuple(k, x); got != tupleOf(k, x) || err != api.OK {
				t.Errorf("Tuple(%d, %d) = %+v, %v, not %+v", k, x, got, err, tupleOf(k, x))
			}
		}
		for x := 4; x < 64; x++ {
			if got, err := tuple.Tuple(k, x); got != tupleOf(k, x) || err != api.OK {
				t.Fatalf("Tuple(%d, %d) = %+v, %v, not %+v", k, x, got, err, tupleOf(k, x))
			}
		}
	}
}

func TestTupleOfWhatCannotBe(t *testing.T) {
	for _, c := range []struct {
		k, x int
		want api.Errno
	}{
		{0, 0, api.ErrSize}, {33, 0, api.ErrSize}, {-1, 0, api.ErrSize}, {math.MinInt64, 5, api.ErrSize}, {math.MaxInt64, 5, api.ErrSize},
		{0, -1, api.ErrSize}, {33, 1<<24 + 4, api.ErrSize},
		{1, -1, api.ErrEsi}, {32, 1<<24 + 4, api.ErrEsi}, {5, math.MinInt64, api.ErrEsi}, {5, math.MaxInt64, api.ErrEsi}, {5, 1 << 32, api.ErrEsi},
	} {
		if got, err := tuple.Tuple(c.k, c.x); got != (api.Tuple{}) || err != c.want {
			t.Errorf("Tuple(%d, %d) = %+v, %v, not %v", c.k, c.x, got, err, c.want)
		}
	}
}

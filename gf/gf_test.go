package gf_test

import (
	"bytes"
	"math"
	"testing"

	"rill/api"
	"rill/gf"
)

// product is the promise's own wording: shifted sums, then the highest bits taken away.
func product(a, b int) int {
	sum := 0
	for i := 0; i < 8; i++ {
		if b&(1<<i) != 0 {
			sum ^= a << i
		}
	}
	for bit := 14; bit >= 8; bit-- {
		if sum&(1<<bit) != 0 {
			sum ^= 285 << (bit - 8)
		}
	}
	return sum
}

func TestMulIsTheProductOfAllPairs(t *testing.T) {
	for a := 0; a < 256; a++ {
		for b := 0; b < 256; b++ {
			if got := gf.Mul(byte(a), byte(b)); int(got) != product(a, b) {
				t.Fatalf("Mul(%d, %d) = %d, not %d", a, b, got, product(a, b))
			}
		}
	}
}

func TestExamples(t *testing.T) {
	if got := gf.Mul(2, 128); got != 29 {
		t.Error("Mul(2, 128)", got)
	}
	if a, b := gf.Exp(8), gf.Exp(-1); a != 29 || b != 142 {
		t.Error("Exp(8), Exp(-1)", a, b)
	}
	if n, err := gf.Log(29); n != 8 || err != api.OK {
		t.Error("Log(29)", n, err)
	}
	if a, err := gf.Inv(2); a != 142 || err != api.OK {
		t.Error("Inv(2)", a, err)
	}
	if got := gf.Add([]byte{1, 2}, []byte{3}); !bytes.Equal(got, []byte{2, 2}) {
		t.Error("Add", got)
	}
	if got := gf.Mix([]byte{1, 2}, []byte{1, 1}, []byte{1}); !bytes.Equal(got, []byte{3, 1}) {
		t.Error("Mix", got)
	}
}

func TestExpIsAPowerOfTwo(t *testing.T) {
	power := 1
	for n := 0; n < 600; n++ {
		if got := gf.Exp(n); int(got) != power {
			t.Fatalf("Exp(%d) = %d, not %d", n, got, power)
		}
		if got := product(int(gf.Exp(-n)), power); got != 1 {
			t.Fatalf("Exp(%d) times Exp(%d) = %d", -n, n, got)
		}
		power = product(power, 2)
	}
}

func TestExpOfTheOutermostNumbers(t *testing.T) {
	// 2^63 is 128 modulo 255: 2^8 is 1 there, and 63 is 7 modulo 8.
	for _, c := range []struct{ n, same int }{
		{math.MaxInt64, 127}, {math.MinInt64, -128}, {math.MinInt64 + 1, -127},
		{255, 0}, {-255, 0}, {-256, -1}, {254, -1}, {math.MaxInt32, 127},
	} {
		if got, want := gf.Exp(c.n), gf.Exp((c.same+255)%255); got != want {
			t.Errorf("Exp(%d) = %d, not %d", c.n, got, want)
		}
	}
}

func TestLogAndInv(t *testing.T) {
	met := map[int]int{}
	for a := 1; a < 256; a++ {
		n, err := gf.Log(byte(a))
		if err != api.OK || n < 0 || n > 254 || int(gf.Exp(n)) != a {
			t.Fatalf("Log(%d) = %d, %v", a, n, err)
		}
		met[n] = a
		i, err := gf.Inv(byte(a))
		if err != api.OK || product(a, int(i)) != 1 {
			t.Fatalf("Inv(%d) = %d, %v", a, i, err)
		}
	}
	if len(met) != 255 {
		t.Error("logarithms", len(met))
	}
	if n, err := gf.Log(0); n != 0 || err != api.ErrZero {
		t.Error("Log(0)", n, err)
	}
	if i, err := gf.Inv(0); i != 0 || err != api.ErrZero {
		t.Error("Inv(0)", i, err)
	}
}

// all is a list of each element, from the given one on.
func all(from int) []byte {
	list := make([]byte, 256)
	for i := range list {
		list[i] = byte(from + i)
	}
	return list
}

func TestAdd(t *testing.T) {
	for _, c := range []struct{ a, b, want []byte }{
		{nil, nil, nil},
		{[]byte{}, nil, nil},
		{nil, []byte{7, 0, 9}, []byte{7, 0, 9}},
		{[]byte{7, 0, 9}, nil, []byte{7, 0, 9}},
		{[]byte{255}, []byte{15, 1, 0}, []byte{240, 1, 0}},
		{[]byte{15, 1, 0}, []byte{255}, []byte{240, 1, 0}},
		{[]byte{1, 2, 3}, []byte{1, 2, 3}, []byte{0, 0, 0}},
		{[]byte{0, 0}, []byte{0}, []byte{0, 0}},
	} {
		if got := gf.Add(c.a, c.b); !bytes.Equal(got, c.want) {
			t.Errorf("Add(%v, %v) = %v", c.a, c.b, got)
		}
	}
}

func TestScale(t *testing.T) {
	list := all(0)
	for k := 0; k < 256; k++ {
		got := gf.Scale(byte(k), list)
		if len(got) != len(list) {
			t.Fatalf("Scale(%d) has %d elements", k, len(got))
		}
		for i, a := range list {
			if int(got[i]) != product(k, int(a)) {
				t.Fatalf("Scale(%d) of %d = %d", k, a, got[i])
			}
		}
	}
	if got := gf.Scale(3, nil); len(got) != 0 {
		t.Error("Scale of nothing", got)
	}
}

func TestMix(t *testing.T) {
	for _, c := range []struct {
		ks   []byte
		vs   [][]byte
		want []byte
	}{
		{nil, nil, nil},
		{[]byte{1, 2, 3}, nil, nil},
		{nil, [][]byte{{9, 9, 9}}, []byte{0, 0, 0}},
		{[]byte{1}, [][]byte{{5}, {9, 9, 9}}, []byte{5, 0, 0}},
		{[]byte{0, 1}, [][]byte{{9, 9, 9, 9}, {5}}, []byte{5, 0, 0, 0}},
		{[]byte{1, 1, 1}, [][]byte{{5}, nil, {1, 2}}, []byte{4, 2}},
		{[]byte{2, 3, 200}, [][]byte{{128, 1}}, []byte{29, 2}},
		{[]byte{1, 2}, [][]byte{{1, 1}, {1}, {9, 9, 9}}, []byte{3, 1, 0}},
		{[]byte{7, 7}, [][]byte{{1, 2, 3}, {1, 2, 3}}, []byte{0, 0, 0}},
	} {
		if got := gf.Mix(c.ks, c.vs...); !bytes.Equal(got, c.want) {
			t.Errorf("Mix(%v, %v) = %v, not %v", c.ks, c.vs, got, c.want)
		}
	}
}

func TestMixOfManyListsIsTheSumOfThemScaled(t *testing.T) {
	ks, vs := all(3), [][]byte{}
	want := make([]byte, 300)
	for i := 0; i < 300; i++ {
		vs = append(vs, all(i)[:(i*37)%257])
		for j, a := range vs[i] {
			if i < len(ks) {
				want[j] ^= byte(product(int(ks[i]), int(a)))
			}
		}
	}
	if got := gf.Mix(ks, vs...); !bytes.Equal(got, want[:256]) {
		t.Error("Mix of 300 lists", got)
	}
}

func TestListsAreLeftAndAnswersAreNew(t *testing.T) {
	room := []byte{1, 2, 3, 99, 98}
	a, b, ks := room[:3], []byte{4, 5}, []byte{1, 1}
	vs := [][]byte{a, b, {77}}
	answers := [][]byte{gf.Add(a, b), gf.Add(a, nil), gf.Add(nil, a), gf.Scale(1, a), gf.Mix(ks, vs[:2]...), gf.Mix([]byte{1}, a)}
	for _, answer := range answers {
		answer = answer[:cap(answer)]
		for i := range answer {
			answer[i] = 55
		}
	}
	if !bytes.Equal(room, []byte{1, 2, 3, 99, 98}) || !bytes.Equal(b, []byte{4, 5}) || !bytes.Equal(ks, []byte{1, 1}) {
		t.Error("what was handed in has changed", room, b, ks)
	}
	if len(vs) != 3 || !bytes.Equal(vs[2], []byte{77}) {
		t.Error("the row of lists has changed", vs)
	}
}

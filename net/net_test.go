package net_test

import (
	"fmt"
	"math"
	"math/rand"
	"slices"
	"testing"
	"unsafe"

	"rill/net"
)

// show tells what is on its way, and how many numbers were given.
func show(n *net.Net) string { return fmt.Sprint(n.Flight(), n.Sent()) }

func TestExample(t *testing.T) {
	n := net.New()
	if show(n) != "[] 0" {
		t.Error("a new net", show(n))
	}
	if !n.Send(3, []byte("a")) || !n.Send(4, []byte("b")) || !n.Double(0) || show(n) != "[3 4 3] 3" {
		t.Error("Send, Send, Double", show(n))
	}
	if to, b, ok := n.Take(1); to != 4 || string(b) != "b" || !ok || show(n) != "[3 3] 3" {
		t.Errorf("Take(1): %d, %q, %v, %s", to, b, ok, show(n))
	}
	if to, b, ok := n.Take(2); to != 0 || len(b) != 0 || ok || show(n) != "[3 3] 3" {
		t.Errorf("Take(2): %d, %q, %v, %s", to, b, ok, show(n))
	}
}

func TestNumbersThatAreNoDatagrams(t *testing.T) {
	n := net.New()
	for round := range 3 {
		for _, i := range []int{-1, round, round + 1, 400, math.MinInt64, math.MaxInt64} {
			if to, b, ok := n.Take(i); to != 0 || len(b) != 0 || ok {
				t.Errorf("Take(%d) of %d: %d, %q", i, round, to, b)
			}
			if n.Lose(i) || n.Double(i) {
				t.Errorf("Lose, Double(%d) of %d", i, round)
			}
		}
		if n.Sent() != round || len(n.Flight()) != round {
			t.Error("these have changed the net", show(n))
		}
		n.Send(round, nil)
	}
}

func TestReceiversAndBytesOfAllKinds(t *testing.T) {
	n := net.New()
	for _, to := range []int{0, -1, 12, math.MinInt64, math.MaxInt64} {
		for _, text := range []string{"", "\x00", "some bytes"} {
			if !n.Send(to, []byte(text)) || !n.Double(0) || !n.Lose(0) {
				t.Error("Send, Double, Lose", show(n))
			}
			if got, b, ok := n.Take(0); got != to || string(b) != text || !ok {
				t.Errorf("Take: %d, %q, %v", got, b, ok)
			}
		}
	}
}

func TestTheGreatestFlight(t *testing.T) {
	n := net.New()
	for i := range 400 {
		if !n.Send(i, []byte{byte(i)}) {
			t.Fatal("Send", i)
		}
	}
	if n.Send(7, nil) || n.Double(0) || n.Sent() != 400 || len(n.Flight()) != 400 {
		t.Error("one more", n.Sent())
	}
	if !n.Lose(399) || !n.Double(5) || n.Double(5) || n.Sent() != 401 || n.Flight()[399] != 5 {
		t.Error("Double behind Lose", n.Sent())
	}
	if to, _, ok := n.Take(0); to != 0 || !ok || !n.Send(9, nil) || n.Send(9, nil) || n.Sent() != 402 {
		t.Error("Send behind Take", n.Sent())
	}
	if flight := n.Flight(); flight[0] != 1 || flight[398] != 5 || flight[399] != 9 {
		t.Error("the order", flight)
	}
}

type gram struct {
	to   int
	text string
}

func TestManyRowsOfCalls(t *testing.T) {
	r := rand.New(rand.NewSource(1))
	for range 30 {
		n, sent := net.New(), 0
		var way []gram
		put := func(g gram) bool {
			if len(way) == 400 {
				return false
			}
			way = append(way, g)
			sent++
			return true
		}
		for range 1500 {
			i := r.Intn(len(way)+3) - 1
			there := i >= 0 && i < len(way)
			g := gram{r.Intn(12), fmt.Sprint(r.Intn(1000))}
			switch r.Intn(6) {
			case 0, 1:
				if n.Send(g.to, []byte(g.text)) != put(g) {
					t.Fatal("Send")
				}
			case 2, 3:
				if n.Double(i) != (there && put(way[max(0, min(i, len(way)-1))])) {
					t.Fatal("Double", i)
				}
			case 4:
				if n.Lose(i) != there {
					t.Fatal("Lose", i)
				}
				if there {
					way = slices.Delete(way, i, i+1)
				}
			default:
				to, b, ok := n.Take(i)
				if ok != there || there && (gram{to, string(b)}) != way[i] {
					t.Fatalf("Take(%d): %d, %q, %v", i, to, b, ok)
				}
				if there {
					way = slices.Delete(way, i, i+1)
				}
			}
			var flight []int
			for _, g := range way {
				flight = append(flight, g.to)
			}
			if !slices.Equal(n.Flight(), flight) || n.Sent() != sent {
				t.Fatalf("%s, not %v %d", show(n), flight, sent)
			}
		}
	}
}

// apart: does no list share memory with another, spare room included?
func apart(lists ...[]byte) bool {
	for i, a := range lists {
		for _, b := range lists[:i] {
			x, y := uintptr(unsafe.Pointer(unsafe.SliceData(a))), uintptr(unsafe.Pointer(unsafe.SliceData(b)))
			if x < y+uintptr(cap(b)) && y < x+uintptr(cap(a)) {
				return false
			}
		}
	}
	return true
}

func TestListsAreLeftAndAnswersAreNew(t *testing.T) {
	n, other := net.New(), net.New()
	room := []byte("bytes-behind")
	n.Send(1, room[:5])
	n.Double(0)
	n.Double(0)
	if string(room) != "bytes-behind" {
		t.Errorf("what was handed in has changed: %q", room)
	}
	copy(room, "?????")
	_, one, _ := n.Take(1)
	if string(one) != "bytes" {
		t.Errorf("what was handed in was kept: %q", one)
	}
	lists := [][]byte{room, one}
	clear(one[:cap(one)])
	flight := n.Flight()
	flight[0] = 99
	_ = append(flight, 98)
	if show(n) != "[1 1] 3" {
		t.Error(show(n))
	}
	for range 2 {
		_, b, _ := n.Take(0)
		if string(b) != "bytes" {
			t.Errorf("a double is %q", b)
		}
		lists = append(lists, b)
	}
	if !apart(lists...) {
		t.Error("an answer shares memory")
	}
	if show(n) != "[] 3" || show(other) != "[] 0" {
		t.Error("two nets", show(n), show(other))
	}
}

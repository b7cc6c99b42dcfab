package box_test

import (
	"math"
	"slices"
	"testing"

	"folkmoot/api"
	"folkmoot/box"
)

func made(t *testing.T, first, second int) *box.Box[string] {
	t.Helper()
	b, e := box.New[string](first, second)
	if e != api.OK {
		t.Fatalf("P701: New(%d, %d) = %v", first, second, e)
	}
	return b
}

func TestNew(t *testing.T) {
	for _, c := range [][2]int{{0, 1}, {1, 0}, {-1, 1}, {1, -1}, {257, 1}, {1, 257}, {math.MaxInt, 1}, {1, math.MinInt}} {
		if b, e := box.New[int](c[0], c[1]); b != nil || e != api.ErrArg {
			t.Errorf("P701: New(%d, %d) = %v, %v", c[0], c[1], b, e)
		}
	}
	b, e := box.New[int](api.MaxBag, api.MaxBag)
	if e != api.OK {
		t.Fatalf("P701: New = %v", e)
	}
	for i := range api.MaxBag {
		if b.Put(i, true) != api.OK || b.Put(i, false) != api.OK {
			t.Fatalf("P701: no room for element %d", i)
		}
	}
	if b.Put(0, true) != api.ErrFull || b.Put(0, false) != api.ErrFull {
		t.Error("P701: more than the room")
	}
}

func TestOrder(t *testing.T) {
	b := made(t, 2, 3)
	if x, ok := b.Take(); x != "" || ok {
		t.Errorf("P701: Take of an empty box = %q, %v", x, ok)
	}
	b.Put("a", false)
	b.Put("b", true)
	b.Put("c", true)
	if e := b.Put("x", true); e != api.ErrFull {
		t.Errorf("P701: a third urgent element: %v", e)
	}
	if e := b.Put("d", false); e != api.OK {
		t.Errorf("P701: the queues share their room: %v", e)
	}
	for range 2 {
		if got := b.All(); !slices.Equal(got, []string{"b", "c", "a", "d"}) {
			t.Errorf("P701: All = %v", got)
		}
	}
	if m, n := b.Len(); m != 2 || n != 2 {
		t.Errorf("P701: Len = %d, %d", m, n)
	}
	for _, want := range []string{"b", "c", "a"} {
		if x, ok := b.Take(); x != want || !ok {
			t.Errorf("P701: Take = %q, %v, want %q", x, ok, want)
		}
	}
	b.Put("e", true)
	for _, want := range []string{"e", "d"} {
		if x, ok := b.Take(); x != want || !ok {
			t.Errorf("P701: Take = %q, %v, want %q", x, ok, want)
		}
	}
	if _, ok := b.Take(); ok || len(b.All()) != 0 {
		t.Error("P701: something is left")
	}
}

func TestFullQueueLeavesTheBoxAlone(t *testing.T) {
	b := made(t, 1, 1)
	b.Put("a", false)
	if e := b.Put("b", false); e != api.ErrFull {
		t.Errorf("P701: Put = %v", e)
	}
	if got := b.All(); !slices.Equal(got, []string{"a"}) {
		t.Errorf("P5: All = %v", got)
	}
}

func TestClear(t *testing.T) {
	b := made(t, 2, 2)
	b.Put("a", false)
	b.Put("b", true)
	b.Clear()
	if m, n := b.Len(); m != 0 || n != 0 || len(b.All()) != 0 {
		t.Errorf("P701: after Clear: %d, %d", m, n)
	}
	if b.Put("c", true) != api.OK || b.Put("d", true) != api.OK || b.Put("e", true) != api.ErrFull {
		t.Error("P701: the room is another after Clear")
	}
	b.Clear()
	b.Clear()
}

func TestTwin(t *testing.T) {
	b := made(t, 2, 1)
	b.Put("a", false)
	b.Put("b", true)
	w := b.Twin()
	b.Take()
	w.Put("c", true)
	if got := b.All(); !slices.Equal(got, []string{"a"}) {
		t.Errorf("P701: All = %v", got)
	}
	if got := w.All(); !slices.Equal(got, []string{"b", "c", "a"}) {
		t.Errorf("P701: All of the twin = %v", got)
	}
	if w.Put("d", true) != api.ErrFull || w.Put("d", false) != api.ErrFull {
		t.Error("P701: the twin has another room")
	}
	got := w.All()
	got[0] = "changed"
	if x, _ := w.Take(); x != "b" {
		t.Error("P2: All shares memory with the box")
	}
}

package wal_test

import (
	"math"
	"slices"
	"testing"

	"folkmoot/api"
	"folkmoot/wal"
)

// made has the synced records and then the unsynced ones, a letter each.
func made(t *testing.T, room int, synced, waits string) *wal.Wal[string] {
	t.Helper()
	w, e := wal.New[string](room)
	if e != api.OK {
		t.Fatalf("P801: New(%d) = %v", room, e)
	}
	for _, c := range synced {
		w.Append(string(c))
	}
	w.Sync()
	for _, c := range waits {
		w.Append(string(c))
	}
	return w
}

func text(w *wal.Wal[string]) string {
	s := ""
	for _, x := range w.All() {
		s += x
	}
	return s
}

func TestNew(t *testing.T) {
	for _, room := range []int{0, -1, 1<<16 + 1, math.MaxInt, math.MinInt} {
		if w, e := wal.New[int](room); w != nil || e != api.ErrArg {
			t.Errorf("P801: New(%d) = %v, %v", room, w, e)
		}
	}
	w, e := wal.New[int](1 << 16)
	if e != api.OK || w.Len() != 0 || w.Waits() != 0 || len(w.All()) != 0 {
		t.Fatalf("P801: New = %v", e)
	}
	for i := range 1 << 16 {
		if e := w.Append(i); e != api.OK {
			t.Fatalf("P801: record %d: %v", i, e)
		}
	}
	if e := w.Append(0); e != api.ErrFull {
		t.Errorf("P801: a record too many: %v", e)
	}
}

func TestAppend(t *testing.T) {
	w := made(t, 4, "ab", "cd")
	if e := w.Append("e"); e != api.ErrFull || text(w) != "abcd" {
		t.Errorf("P801: Append beyond the room: %v, %s", e, text(w))
	}
	if w.Len() != 4 || w.Waits() != 2 {
		t.Errorf("P801: Len %d, Waits %d", w.Len(), w.Waits())
	}
	w.Sync()
	if w.Len() != 4 || w.Waits() != 0 || text(w) != "abcd" {
		t.Errorf("P801: after Sync: Len %d, Waits %d", w.Len(), w.Waits())
	}
	got := w.All()
	got[0] = "x"
	if text(w) != "abcd" {
		t.Error("P2: All shares memory with the log")
	}
}

func TestCrash(t *testing.T) {
	for keep, want := range map[int]string{
		math.MinInt: "ab", -1: "ab", 0: "ab", 1: "abc", 2: "abcd", 3: "abcd", math.MaxInt: "abcd",
	} {
		w := made(t, 4, "ab", "cd")
		w.Crash(keep)
		if text(w) != want || w.Waits() != 0 {
			t.Errorf("P801, P802: Crash(%d) leaves %s, %d", keep, text(w), w.Waits())
		}
		w.Crash(-1)
		if text(w) != want {
			t.Errorf("P801: what a Crash kept is not synced: %s", text(w))
		}
		for w.Len() < 4 {
			if e := w.Append("n"); e != api.OK {
				t.Fatalf("P801: Append after Crash: %v", e)
			}
		}
	}
}

func TestTrim(t *testing.T) {
	for _, c := range []struct {
		n     int
		want  string
		waits int
		e     api.Errno
	}{
		{math.MinInt, "abcde", 2, api.ErrArg},
		{-1, "abcde", 2, api.ErrArg},
		{0, "abcde", 2, api.ErrArg},
		{1, "Sbcde", 2, api.OK},
		{2, "Scde", 2, api.OK},
		{3, "Sde", 2, api.OK},
		{4, "abcde", 2, api.ErrState},
		{5, "abcde", 2, api.ErrState},
		{6, "abcde", 2, api.ErrArg},
		{math.MaxInt, "abcde", 2, api.ErrArg},
	} {
		w := made(t, 5, "abc", "de")
		if e := w.Trim(c.n, "S"); e != c.e || text(w) != c.want || w.Waits() != c.waits || w.Len() != len(c.want) {
			t.Errorf("P801: Trim(%d) = %v, %s, %d", c.n, e, text(w), w.Waits())
		}
		w.Crash(0)
		if want := c.want[:len(c.want)-2]; text(w) != want {
			t.Errorf("P801: Trim(%d) and Crash leave %s, want %s", c.n, text(w), want)
		}
	}
	w := made(t, 2, "ab", "")
	w.Trim(2, "S")
	if e := w.Append("c"); e != api.OK || text(w) != "Sc" {
		t.Errorf("P801: Trim makes no room: %v, %s", e, text(w))
	}
	one := made(t, 1, "", "a")
	if e := one.Append("b"); e != api.ErrFull || text(one) != "a" {
		t.Errorf("P801: a log with room for one record: %v, %s", e, text(one))
	}
	empty := made(t, 2, "", "")
	if e := empty.Trim(1, "S"); e != api.ErrArg {
		t.Errorf("P801: Trim of an empty log: %v", e)
	}
}

func TestTwin(t *testing.T) {
	w := made(t, 3, "a", "b")
	v := w.Twin()
	w.Append("c")
	w.Sync()
	if text(v) != "ab" || v.Waits() != 1 {
		t.Errorf("P801: the twin went along: %s, %d", text(v), v.Waits())
	}
	v.Crash(0)
	v.Append("x")
	v.Append("y")
	if text(w) != "abc" || text(v) != "axy" || v.Append("z") != api.ErrFull {
		t.Errorf("P801: %s and %s", text(w), text(v))
	}
	v.Trim(1, "S")
	three := made(t, 9, "abc", "")
	four := three.Twin()
	three.Append("d")
	four.Append("e")
	if text(three) != "abcd" || text(four) != "abce" {
		t.Errorf("P801: %s and %s", text(three), text(four))
	}
	if !slices.Equal(w.All(), []string{"a", "b", "c"}) {
		t.Errorf("P801: the log went along with its twin: %s", text(w))
	}
}

package clock_test

import (
	"math"
	"testing"

	"folkmoot/api"
	"folkmoot/clock"
)

func made(t *testing.T, at int64) *clock.Clock {
	t.Helper()
	c, e := clock.New(at)
	if e != api.OK || c.Now() != at || c.Floor() != 0 {
		t.Fatalf("P1001: New(%d) = %v", at, e)
	}
	return c
}

func issued(t *testing.T, c *clock.Clock, want int64) {
	t.Helper()
	if got, e := c.Issue(); got != want || e != api.OK || c.Floor() != want {
		t.Errorf("P1001: Issue = %d, %v, Floor %d, want %d", got, e, c.Floor(), want)
	}
}

func TestNew(t *testing.T) {
	for _, at := range []int64{-1, api.MaxTime + 1, math.MaxInt64, math.MinInt64} {
		if c, e := clock.New(at); c != nil || e != api.ErrArg {
			t.Errorf("P1001: New(%d) = %v, %v", at, c, e)
		}
	}
	made(t, 0)
	made(t, api.MaxTime)
}

func TestTick(t *testing.T) {
	c := made(t, 5)
	for _, n := range []int64{-1, math.MinInt64, math.MaxInt64, api.MaxTime - 4} {
		if e := c.Tick(n); e != api.ErrArg || c.Now() != 5 {
			t.Errorf("P1001: Tick(%d) = %v, %d", n, e, c.Now())
		}
	}
	if e := c.Tick(0); e != api.OK || c.Now() != 5 {
		t.Errorf("P1001: Tick(0) = %v, %d", e, c.Now())
	}
	if e := c.Tick(api.MaxTime - 5); e != api.OK || c.Now() != api.MaxTime || c.Floor() != 0 {
		t.Errorf("P1001: Tick to the end = %v, %d", e, c.Now())
	}
	if e := c.Tick(1); e != api.ErrArg {
		t.Errorf("P1001: Tick past the end = %v", e)
	}
}

func TestIssue(t *testing.T) {
	c := made(t, 5)
	issued(t, c, 5)
	issued(t, c, 6)
	c.Tick(3)
	issued(t, c, 8)
	issued(t, c, 9)
	issued(t, c, 10)
	if c.Now() != 8 {
		t.Errorf("P1001: Issue moved Now to %d", c.Now())
	}
	issued(t, made(t, 0), 1)
}

func TestIssueAtTheEnd(t *testing.T) {
	c := made(t, api.MaxTime)
	issued(t, c, api.MaxTime)
	if got, e := c.Issue(); got != 0 || e != api.ErrLong || c.Floor() != api.MaxTime {
		t.Errorf("P1001: Issue past the end = %d, %v", got, e)
	}
	c = made(t, 5)
	if !c.Raise(math.MaxInt64) || c.Floor() != math.MaxInt64 {
		t.Errorf("P1001: Raise to %d", c.Floor())
	}
	if got, e := c.Issue(); got != 0 || e != api.ErrLong || c.Floor() != math.MaxInt64 {
		t.Errorf("P1001: Issue above the greatest floor = %d, %v", got, e)
	}
}

func TestRaise(t *testing.T) {
	c := made(t, 5)
	for _, to := range []int64{0, -1, math.MinInt64} {
		if c.Raise(to) || c.Floor() != 0 {
			t.Errorf("P1001: Raise(%d) moved the floor to %d", to, c.Floor())
		}
	}
	if !c.Raise(3) || c.Floor() != 3 || c.Raise(3) || c.Raise(2) || c.Floor() != 3 {
		t.Errorf("P1001: Raise left the floor at %d", c.Floor())
	}
	issued(t, c, 5)
	if !c.Raise(20) || c.Now() != 5 {
		t.Error("P1001: Raise moved Now")
	}
	issued(t, c, 21)
}

func TestTwin(t *testing.T) {
	c := made(t, 5)
	c.Raise(7)
	w := c.Twin()
	c.Tick(10)
	issued(t, c, 15)
	if w.Now() != 5 || w.Floor() != 7 {
		t.Errorf("P1001: the twin went along: %d, %d", w.Now(), w.Floor())
	}
	issued(t, w, 8)
	w.Tick(100)
	if c.Now() != 15 || c.Floor() != 15 {
		t.Error("P1001: the clock went along with its twin")
	}
}

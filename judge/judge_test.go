package judge_test

import (
	"slices"
	"testing"

	"folkmoot/api"
	"folkmoot/block"
	"folkmoot/cmd"
	"folkmoot/judge"
	"folkmoot/msg"
	"folkmoot/sample"
	"folkmoot/world"
)

func conf(f int) world.Conf {
	return world.Conf{
		F: f, Seed: sample.Seed, Height: 7, Lease: 8, Wait: 4, Margin: 80, Room: 16, Disk: 1000, Accounts: []int64{100, 100},
	}
}

func made(t *testing.T, c world.Conf) *world.World {
	t.Helper()
	w, e := world.New(c)
	if e != api.OK {
		t.Fatalf("P2801: New = %v", e)
	}
	return w
}

func TestDo(t *testing.T) {
	w := made(t, conf(1))
	inject := judge.Act{Op: "inject", M: msg.Msg{Kind: msg.Close, To: 2, Lo: 5}}
	for i, c := range []struct {
		a     judge.Act
		want  api.Errno
		under int
		holds func() bool
	}{
		{judge.Act{Op: ""}, api.ErrName, 0, nil},
		{judge.Act{Op: "Ask", C: sample.Cmd(0)}, api.ErrName, 0, nil},
		{judge.Act{Op: "wait"}, api.ErrName, 0, nil},
		{judge.Act{Op: "deliver"}, api.ErrName, 0, nil},
		{judge.Act{Op: "retry", C: sample.Cmd(0)}, api.ErrName, 0, nil},
		{judge.Act{Op: "ask", C: cmd.Cmd{}}, api.ErrArg, 0, nil},
		{judge.Act{Op: "ask", C: sample.Cmd(0)}, api.OK, 4, nil},
		{judge.Act{Op: "ask", C: sample.Cmd(0)}, api.ErrTwice, 4, nil},
		{judge.Act{Op: "retry", C: sample.Cmd(0)}, api.OK, 8, nil},
		{judge.Act{Op: "drop", A: 7}, api.OK, 7, func() bool { return w.Ways()[6].To == 2 }},
		{judge.Act{Op: "copy", A: 3}, api.OK, 8, func() bool { return w.Ways()[7].To == 3 }},
		{judge.Act{Op: "deliver", A: 3}, api.OK, 8, func() bool { return w.Ways()[7].From == 3 }},
		{judge.Act{Op: "torn", A: 1, B: 1}, api.OK, 7, func() bool { return w.Node(1).Down() && len(w.Node(1).Recs()) == 1 }},
		{judge.Act{Op: "torn", A: 0, B: 0}, api.OK, 6, func() bool { return w.Node(0).Down() && len(w.Node(0).Recs()) == 0 }},
		{judge.Act{Op: "tick", A: 2, N: 30}, api.OK, 6, func() bool { return w.Node(2).Now() == 1044 }},
		{judge.Act{Op: "tick", A: 2, N: -1}, api.ErrArg, 6, nil},
		{judge.Act{Op: "tick", A: 4}, api.ErrArg, 6, nil},
		{judge.Act{Op: "tick", A: 1}, api.ErrDown, 6, nil},
		{judge.Act{Op: "start", A: 1}, api.OK, 6, func() bool { return !w.Node(1).Down() }},
		{judge.Act{Op: "start", A: 1}, api.ErrState, 6, nil},
		{judge.Act{Op: "crash", A: 1}, api.OK, 6, func() bool { return w.Node(1).Down() }},
		{judge.Act{Op: "crash", A: -1}, api.ErrArg, 6, nil},
		{inject, api.OK, 7, func() bool { return w.Ways()[6].Lo == 5 }},
		{judge.Act{Op: "inject"}, api.ErrArg, 7, nil},
		{judge.Act{Op: "deliver", A: 6}, api.ErrArg, 6, nil},
	} {
		if e := judge.Do(w, c.a); e != c.want || len(w.Ways()) != c.under || c.holds != nil && !c.holds() {
			t.Fatalf("P2801: case %d: %s = %v, want %v, %d messages", i, c.a.Op, e, c.want, len(w.Ways()))
		}
	}
}

func TestDayErrors(t *testing.T) {
	for i, c := range []struct {
		change func(*world.Conf)
		want   api.Errno
	}{
		{func(c *world.Conf) { c.F = 9 }, api.ErrArg},
		{func(c *world.Conf) { c.Accounts = make([]int64, 17) }, api.ErrLong},
	} {
		x := conf(1)
		c.change(&x)
		r, e := judge.Day(x, nil, []judge.Act{{Op: "tick"}})
		if e != c.want || len(r.Errs) != 0 || len(r.Bad) != 0 || len(r.Logs) != 0 || r.Clean {
			t.Errorf("P2801: case %d: Day = %v, %v", i, r, e)
		}
	}
}

func TestDayOfNothing(t *testing.T) {
	r, e := judge.Day(conf(2), nil, nil)
	if e != api.OK || !r.Clean || len(r.Bad) != 0 || len(r.Errs) != 0 || !slices.Equal(r.Logs, make([]int, 7)) {
		t.Errorf("P2801: Day = %v, %v", r, e)
	}
}

// usual is a list of acts by which some commands are executed.
func usual(commands, rounds int) []judge.Act {
	var l []judge.Act
	for i := range commands {
		l = append(l, judge.Act{Op: "ask", C: sample.Cmd(i)})
	}
	for range rounds {
		for i := range 4 {
			l = append(l, judge.Act{Op: "tick", A: i, N: 40})
		}
		for range 90 {
			l = append(l, judge.Act{Op: "deliver"})
		}
	}
	return l
}

func TestDay(t *testing.T) {
	l := append(usual(2, 8), judge.Act{Op: "crash", A: 2}, judge.Act{Op: "sleep"})
	r, e := judge.Day(conf(1), nil, l)
	if e != api.OK || !r.Clean || len(r.Bad) != 0 || !slices.Equal(r.Logs, []int{2, 2, 0, 2}) {
		t.Fatalf("P2801: Day = %v, %v, %v, %v", r.Logs, r.Bad, r.Clean, e)
	}
	if n := len(r.Errs); n != len(l) || r.Errs[n-1] != api.ErrName || r.Errs[n-2] != api.OK {
		t.Errorf("P2801: %d errors of %d acts", n, len(l))
	}
	w := made(t, conf(1))
	for i, a := range l {
		if e := judge.Do(w, a); e != r.Errs[i] {
			t.Fatalf("P2801: act %d: %v and %v", i, e, r.Errs[i])
		}
	}
}

func TestDayThatIsNotClean(t *testing.T) {
	s := sample.New(1, 7)
	forged := judge.Act{Op: "inject", M: msg.Msg{Kind: msg.Stamped, To: 4, Stamp: s.Stamp(0, sample.Cmd(0), 50)}}
	plain := judge.Act{Op: "inject", M: msg.Msg{Kind: msg.Close, To: 2}}
	for name, after := range map[string][]judge.Act{
		"selected by a negative number": {plain, {Op: "deliver", A: -3}, {Op: "drop", A: 9}},
		"in the list":                   nil, "dropped": {{Op: "drop"}}, "delivered": {{Op: "deliver", A: 5}},
		"torn": {{Op: "torn", A: -1}}, "among others": {{Op: "copy"}, {Op: "deliver"}, {Op: "drop", A: 3}, {Op: "drop", A: 8}},
	} {
		for _, bad := range [][]int{nil, {1}, {0}} {
			r, e := judge.Day(conf(1), bad, append([]judge.Act{forged}, after...))
			if want := slices.Contains(bad, 0); e != api.OK || r.Clean != want || len(r.Bad) != 0 || len(r.Errs) != 1+len(after) {
				t.Errorf("P2801: %s, bad %v: Clean is %v, %v", name, bad, r.Clean, e)
			}
		}
	}
}

// commit makes a replica commit a block with one command, at the time 50, which all other keys
// sign. The message is the one at this place of the list.
func commit(s sample.Set, who, nonce, place int) []judge.Act {
	chain := []block.Block{s.Block(1, block.Genesis(), 90, s.Cert(sample.Cmd(nonce), 50))}
	for v := 2; v <= 4; v++ {
		chain = append(chain, s.Block(v, chain[v-2], int64(90+v)))
	}
	return []judge.Act{
		{Op: "inject", M: msg.Msg{Kind: msg.Acked, To: who, Chain: chain}}, {Op: "deliver", A: place},
	}
}

// askLast asks for a command, and lets only replica 3 stamp it, at 1021. The stamp stays in
// the list.
func askLast(nonce int) []judge.Act {
	drop := judge.Act{Op: "drop"}
	return []judge.Act{{Op: "ask", C: sample.Cmd(nonce)}, drop, drop, drop, {Op: "deliver"}}
}

func TestDayBad(t *testing.T) {
	s := sample.New(1, 7)
	l := append(commit(s, 2, 0, 0), commit(s, 3, 1, 0)...)
	r, e := judge.Day(conf(1), nil, l)
	if e != api.OK || r.Clean || len(r.Bad) != 0 || !slices.Equal(r.Logs, []int{0, 0, 1, 1}) {
		t.Errorf("P2801: Day = %v, %v, %v", r, r.Logs, e)
	}
	r, e = judge.Day(conf(1), []int{0, 1, 2}, append(askLast(1), commit(s, 3, 1, 1)...))
	if e != api.OK || !r.Clean || !slices.Equal(r.Bad, []string{"fair"}) || !slices.Equal(r.Logs, []int{0, 0, 0, 1}) {
		t.Errorf("P2801: with three bad replicas Bad is %v, %v", r.Bad, e)
	}
}

func TestDayBadInOrder(t *testing.T) {
	s := sample.New(1, 7)
	c := s.Cert(sample.Cmd(5), 60)
	drop, deliver := judge.Act{Op: "drop"}, judge.Act{Op: "deliver"}
	l := []judge.Act{{Op: "ask", C: sample.Cmd(5)}, drop, drop, drop, drop}
	for _, x := range c.Stamps {
		l = append(l, judge.Act{Op: "inject", M: msg.Msg{Kind: msg.Stamped, To: 4, Stamp: x}}, deliver)
	}
	l = append(l, drop, drop, drop, drop)
	for _, x := range s.Acks(3, c) {
		l = append(l, judge.Act{Op: "inject", M: msg.Msg{Kind: msg.Acked, To: 4, Ack: x}}, deliver)
	}
	l = append(l, askLast(1)...)
	l = append(l, commit(s, 3, 1, 1)...)
	r, e := judge.Day(conf(1), []int{0, 1, 2}, l)
	if e != api.OK || !r.Clean || !slices.Equal(r.Bad, []string{"fair", "kept"}) {
		t.Errorf("P2801: Bad is %v, Clean %v, %v, %v", r.Bad, r.Clean, e, r.Logs)
	}
}

// TestDayMissesNoMessage has acts between that take no message off the list, though they name one.
func TestDayMissesNoMessage(t *testing.T) {
	s := sample.New(1, 7)
	plain := judge.Act{Op: "inject", M: msg.Msg{Kind: msg.Close, To: 2}}
	forged := judge.Act{Op: "inject", M: msg.Msg{Kind: msg.Stamped, To: 4, Stamp: s.Stamp(0, sample.Cmd(0), 50)}}
	for _, op := range []string{"copy", "inject", "tick", "crash", "start", "ask", "retry", "none"} {
		l := []judge.Act{plain, plain, forged, plain, {Op: "deliver"}, {Op: op, N: 1, M: plain.M, C: sample.Cmd(0)}}
		l = append(l, judge.Act{Op: "drop", A: 1}, judge.Act{Op: "drop", A: 99}, judge.Act{Op: "drop", A: 98})
		if r, e := judge.Day(conf(1), nil, l); e != api.OK || r.Clean {
			t.Errorf("P2801: a forged message is missed with %s between: %v", op, e)
		}
	}
}

func TestCalmDeliversAtMost4000InARound(t *testing.T) {
	c := conf(3)
	c.Height, c.Lease, c.Room, c.Disk = 8, 256, 64, 1<<12
	w := made(t, c)
	for i := range w.N() {
		w.Tick(i, 100)
	}
	for i := range 101 {
		w.Ask(cmd.Cmd{Client: i % 16, Nonce: i / 16, From: 0, To: 1, Amount: 1})
	}
	for range 3 {
		w.Inject(msg.Msg{Kind: msg.Close})
	}
	if n := judge.Calm(w, 1, 0); n != 4000 || len(w.Ways()) == 0 {
		t.Errorf("P2801: Calm delivers %d messages, %d are left", n, len(w.Ways()))
	}
	if n, left := judge.Calm(w, 1, 0), len(w.Ways()); n == 0 || left != 0 {
		t.Errorf("P2801: the next round delivers %d messages, %d are left", n, left)
	}
}

func TestCalm(t *testing.T) {
	w := made(t, conf(1))
	w.Ask(sample.Cmd(0))
	w.Crash(3)
	for _, rounds := range []int{0, -1} {
		if n := judge.Calm(w, rounds, 40); n != 0 || !w.Node(3).Down() || len(w.Ways()) != 4 {
			t.Errorf("P2801: Calm of %d rounds = %d", rounds, n)
		}
	}
	v := w.Twin()
	n := judge.Calm(w, 8, 40)
	for i := range w.N() {
		if x := w.Node(i); x.Down() || x.Now() != int64(1000+7*i+8*40) || len(x.State().Log().Entries()) != 1 {
			t.Errorf("P2801: replica %d after Calm: %d", i, x.Now())
		}
	}
	want := 0
	for range 8 {
		for i := range v.N() {
			v.Start(i)
		}
		for i := range v.N() {
			v.Tick(i, 40)
		}
		for len(v.Ways()) > 0 {
			v.Deliver(0)
			want++
		}
	}
	if n != want || len(w.Ways()) != 0 {
		t.Errorf("P2801: Calm delivers %d messages, want %d", n, want)
	}
	for i := range v.N() {
		if !slices.Equal(v.Node(i).Signed(), w.Node(i).Signed()) {
			t.Errorf("P2801: replica %d did something else", i)
		}
	}
	if judge.Calm(w, 1, -1); w.Node(0).Now() != 1320 {
		t.Error("P2801: Calm turns the clocks back")
	}
}

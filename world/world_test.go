package world_test

import (
	"math"
	"slices"
	"testing"

	"folkmoot/api"
	"folkmoot/block"
	"folkmoot/cmd"
	"folkmoot/exec"
	"folkmoot/field"
	"folkmoot/memo"
	"folkmoot/msg"
	"folkmoot/node"
	"folkmoot/quorum"
	"folkmoot/sample"
	"folkmoot/stamp"
	"folkmoot/world"
)

func conf(f int) world.Conf {
	return world.Conf{
		F: f, Seed: sample.Seed, Height: 7, Lease: 8, Wait: 5, Margin: 50, Room: 16, Disk: 500, Accounts: []int64{100, 100},
	}
}

func made(t *testing.T, c world.Conf) *world.World {
	t.Helper()
	w, e := world.New(c)
	if e != api.OK {
		t.Fatalf("P2601: New = %v", e)
	}
	return w
}

// marked is a message that is known by its Lo.
func marked(to int, lo int64) msg.Msg { return msg.Msg{Kind: msg.Close, To: to, Lo: lo} }

func marks(w *world.World) []int64 {
	return field.Map(w.Ways(), func(m msg.Msg) int64 { return m.Lo })
}

// filled has the messages 0 to k - 1 to replica 0, none of which it takes.
func filled(t *testing.T, k int) *world.World {
	t.Helper()
	w := made(t, conf(1))
	for i := range k {
		if e := w.Inject(marked(0, int64(i))); e != api.OK {
			t.Fatalf("P2601: Inject = %v", e)
		}
	}
	return w
}

func TestNew(t *testing.T) {
	for f := 1; f <= 3; f++ {
		w := made(t, conf(f))
		if w.N() != 3*f+1 || len(w.Ways()) != 0 || w.Client() == nil || w.Node(-1) != nil || w.Node(w.N()) != nil {
			t.Errorf("P2601: a world for F = %d", f)
		}
		k, _ := node.Seeds(quorum.Conf{F: f}, sample.Seed, 7)
		if got := w.Keys(); got.Conf.F != f || got.Height != 7 || !slices.Equal(got.Roots, k.Roots) {
			t.Errorf("P2601: Keys = %v", got)
		}
		for i := range w.N() {
			if n := w.Node(i); n.Now() != int64(1000+7*i) || n.Down() || len(n.Recs()) != 0 {
				t.Errorf("P2601: the clock of replica %d is at %d", i, n.Now())
			}
		}
	}
	for i, c := range []struct {
		change func(*world.Conf)
		want   api.Errno
	}{
		{func(c *world.Conf) { c.F = 0 }, api.ErrArg}, {func(c *world.Conf) { c.F = 4 }, api.ErrArg},
		{func(c *world.Conf) { c.Height = 9 }, api.ErrArg}, {func(c *world.Conf) { c.Lease = 0 }, api.ErrArg},
		{func(c *world.Conf) { c.Accounts = make([]int64, 17) }, api.ErrLong},
		{func(c *world.Conf) { c.F, c.Accounts = 0, make([]int64, 17) }, api.ErrArg},
		{func(c *world.Conf) { c.Height, c.Accounts = -1, make([]int64, 17) }, api.ErrArg},
		{func(c *world.Conf) { c.Wait = 0 }, api.ErrArg}, {func(c *world.Conf) { c.Margin = -1 }, api.ErrArg},
		{func(c *world.Conf) { c.Room = 65 }, api.ErrArg}, {func(c *world.Conf) { c.Disk = 0 }, api.ErrArg},
	} {
		x := conf(1)
		c.change(&x)
		if w, e := world.New(x); w != nil || e != c.want {
			t.Errorf("P2601: case %d: New = %v, want %v", i, e, c.want)
		}
	}
}

func TestSelection(t *testing.T) {
	for k, want := range map[int]int{0: 0, 3: 3, 4: 4, 5: 0, 12: 2, -1: 0, -7: 0, math.MinInt: 0, math.MaxInt: math.MaxInt % 5} {
		all := []int64{0, 1, 2, 3, 4}
		without := slices.Delete(slices.Clone(all), want, want+1)
		w := filled(t, 5)
		if e := w.Drop(k); e != api.OK || !slices.Equal(marks(w), without) {
			t.Errorf("P2601: Drop(%d) = %v, left %v", k, e, marks(w))
		}
		w = filled(t, 5)
		if e := w.Copy(k); e != api.OK || !slices.Equal(marks(w), append(all, int64(want))) {
			t.Errorf("P2601: Copy(%d) = %v, left %v", k, e, marks(w))
		}
		w = filled(t, 5)
		if e := w.Deliver(k); e != api.ErrArg || !slices.Equal(marks(w), without) {
			t.Errorf("P2601: Deliver(%d) = %v, left %v", k, e, marks(w))
		}
		w = filled(t, 5)
		if e := w.Torn(k, 0); e != api.ErrArg || !slices.Equal(marks(w), without) || !w.Node(0).Down() {
			t.Errorf("P2601: Torn(%d) = %v, left %v", k, e, marks(w))
		}
	}
}

func TestNoMessages(t *testing.T) {
	w := made(t, conf(1))
	for _, e := range []api.Errno{w.Deliver(0), w.Torn(0, 0), w.Drop(0), w.Copy(0), w.Deliver(-1), w.Copy(7)} {
		if e != api.ErrName {
			t.Errorf("P2601: without a message: %v", e)
		}
	}
}

func TestRoomForMessages(t *testing.T) {
	w := filled(t, 4*api.MaxBag)
	if e := w.Inject(marked(0, -1)); e != api.OK || len(w.Ways()) != 4*api.MaxBag {
		t.Errorf("P2601: a message too many: %v, %d", e, len(w.Ways()))
	}
	if e := w.Copy(5); e != api.OK || len(w.Ways()) != 4*api.MaxBag {
		t.Errorf("P2601: a copy too many: %v, %d", e, len(w.Ways()))
	}
	w.Drop(0)
	w.Drop(0)
	if e := w.Ask(sample.Cmd(0)); e != api.OK {
		t.Errorf("P2601: Ask = %v", e)
	}
	l := w.Ways()
	if len(l) != 4*api.MaxBag || l[len(l)-1].To != 1 || l[len(l)-1].Kind != msg.Ask || l[0].Lo != 2 {
		t.Error("P2601: not just the further messages are lost")
	}
}

func TestInject(t *testing.T) {
	w := made(t, conf(1))
	for i, c := range []struct {
		m    msg.Msg
		want api.Errno
	}{
		{msg.Msg{Kind: 0}, api.ErrArg}, {msg.Msg{Kind: 1, To: 5}, api.ErrArg}, {msg.Msg{Kind: 1, From: -1}, api.ErrArg},
		{msg.Msg{Kind: 1, Chain: make([]block.Block, 257)}, api.ErrLong},
	} {
		if e := w.Inject(c.m); e != c.want || len(w.Ways()) != 0 {
			t.Errorf("P2601: case %d: Inject = %v", i, e)
		}
	}
	m := msg.Msg{Kind: msg.Acked, From: 4, To: 4, Lo: 3, Chain: []block.Block{{View: 7}}}
	w.Inject(m)
	m.Chain[0].View = 8
	w.Ways()[0].Chain[0].View = 9
	if got := w.Ways()[0]; got.Chain[0].View != 7 || got.From != 4 || got.To != 4 || got.Lo != 3 {
		t.Error("P2: a message is shared with the world")
	}
	w.Keys().Roots[0] = 0
	if w.Keys().Roots[0] == 0 {
		t.Error("P2: the keys are shared with the world")
	}
}

func TestAskAndRetry(t *testing.T) {
	w := made(t, conf(1))
	x := sample.Cmd(0)
	if e := w.Retry(x); e != api.ErrName || len(w.Ways()) != 0 {
		t.Errorf("P2601: Retry = %v", e)
	}
	if e := w.Ask(cmd.Cmd{}); e != api.ErrArg || len(w.Ways()) != 0 {
		t.Errorf("P2601: Ask of a wrong command = %v", e)
	}
	if e := w.Ask(x); e != api.OK || !slices.EqualFunc(w.Ways(), msg.All(4, 4, msg.Msg{Kind: msg.Ask, Cmd: x}), msg.Same) {
		t.Errorf("P2601: Ask = %v", e)
	}
	if e := w.Ask(x); e != api.ErrTwice || len(w.Ways()) != 4 {
		t.Errorf("P2601: a second Ask = %v", e)
	}
	if e := w.Retry(x); e != api.OK || len(w.Ways()) != 8 {
		t.Errorf("P2601: Retry = %v", e)
	}
}

func TestDeliver(t *testing.T) {
	w := made(t, conf(1))
	w.Ask(sample.Cmd(0))
	for i := range 4 {
		if e := w.Deliver(0); e != api.OK {
			t.Errorf("P2601: Deliver = %v", e)
		}
		l := w.Ways()
		if last := l[3]; len(l) != 4 || last.Kind != msg.Stamped || last.From != i || last.To != 4 || last.Stamp.At != int64(1000+7*i) {
			t.Errorf("P2601: what came of message %d is %v", i, msg.Word(last.Kind))
		}
	}
	for range 3 {
		w.Deliver(0)
	}
	if l := w.Ways(); len(w.Client().Certs()) != 1 || len(l) != 5 || l[1].Kind != msg.Certify {
		t.Errorf("P2601: %d messages after the stamps", len(l))
	}
	if e := w.Deliver(0); e != api.ErrState || len(w.Ways()) != 4 {
		t.Errorf("P2601: Deliver of a stamp too many = %v", e)
	}
	w.Crash(0)
	if e := w.Deliver(0); e != api.ErrDown || len(w.Ways()) != 3 {
		t.Errorf("P2601: Deliver to a replica that is down = %v", e)
	}
}

func TestTorn(t *testing.T) {
	w := made(t, conf(1))
	w.Ask(sample.Cmd(0))
	if e := w.Torn(1, 1); e != api.OK || !w.Node(1).Down() || len(w.Ways()) != 3 || len(w.Node(1).Recs()) != 1 {
		t.Errorf("P2601: Torn = %v, %d", e, len(w.Node(1).Recs()))
	}
	for range 3 {
		w.Deliver(0)
	}
	for i := range 3 {
		if e := w.Torn(0, 0); e != api.OK || len(w.Ways()) != 2-i+4*(i/2) {
			t.Errorf("P2601: Torn to the client = %v, %d messages", e, len(w.Ways()))
		}
	}
	if len(w.Client().Certs()) != 1 {
		t.Error("P2601: Torn to the client is not as Deliver")
	}
}

func TestTickCrashStart(t *testing.T) {
	w := made(t, conf(1))
	for _, i := range []int{-1, 4, math.MaxInt, math.MinInt} {
		if w.Tick(i, 1) != api.ErrArg || w.Crash(i) != api.ErrArg || w.Start(i) != api.ErrArg {
			t.Errorf("P2601: there is a replica %d", i)
		}
	}
	if e := w.Tick(1, 5); e != api.OK || w.Node(1).Now() != 1012 || len(w.Ways()) != 4 || w.Ways()[0].Hi != 962 {
		t.Errorf("P2601: Tick = %v, %d messages", e, len(w.Ways()))
	}
	if e := w.Tick(2, -1); e != api.ErrArg {
		t.Errorf("P2601: Tick back = %v", e)
	}
	if e := w.Start(2); e != api.ErrState {
		t.Errorf("P2601: Start of what is up = %v", e)
	}
	if e := w.Crash(2); e != api.OK || !w.Node(2).Down() {
		t.Errorf("P2601: Crash = %v", e)
	}
	if e := w.Tick(2, 1); e != api.ErrDown {
		t.Errorf("P2601: Tick of what is down = %v", e)
	}
	if e := w.Start(2); e != api.OK || w.Node(2).Down() {
		t.Errorf("P2601: Start = %v", e)
	}
}

func TestNodesAreOfTheWorldItself(t *testing.T) {
	w := made(t, conf(1))
	w.Node(2).Crash()
	if e := w.Tick(2, 1); e != api.ErrDown {
		t.Errorf("P2601: the replica is a copy: %v", e)
	}
	w.Client().Ask(sample.Cmd(0))
	if e := w.Ask(sample.Cmd(0)); e != api.ErrTwice {
		t.Errorf("P2601: the client is a copy: %v", e)
	}
}

func TestTwin(t *testing.T) {
	w := made(t, conf(1))
	w.Ask(sample.Cmd(0))
	v := w.Twin()
	w.Deliver(0)
	w.Crash(2)
	w.Tick(3, 9)
	w.Ask(sample.Cmd(1))
	if l := v.Ways(); len(l) != 4 || l[0].To != 0 || v.Node(2).Down() || v.Node(3).Now() != 1021 || len(v.Node(0).Recs()) != 0 {
		t.Error("P2601: the twin went along")
	}
	if e := v.Ask(sample.Cmd(1)); e != api.OK {
		t.Errorf("P2601: the client of the twin was asked: %v", e)
	}
	v.Drop(3)
	v.Inject(marked(0, 5))
	if len(w.Ways()) != 8 || w.Keys().Conf.F != 1 || v.N() != 4 {
		t.Error("P2601: the world went along with its twin")
	}
}

// run lets all replicas tick and all messages arrive, in their order.
func run(w *world.World, rounds int, by int64) {
	for range rounds {
		for i := range w.N() {
			w.Tick(i, by)
		}
		for k := len(w.Ways()); k > 0; k = len(w.Ways()) {
			for range k {
				w.Deliver(0)
			}
		}
	}
}

func TestCommandsAreExecutedEverywhere(t *testing.T) {
	for f := 1; f <= 2; f++ {
		w := made(t, conf(f))
		for i := range 3 {
			w.Ask(sample.Cmd(i))
		}
		run(w, 7, 30)
		first := w.Node(0).State().Log()
		if len(first.Entries()) != 3 || len(w.Client().Seqs()) != 3 {
			t.Fatalf("T4: %d commands are executed", len(first.Entries()))
		}
		for i, e := range first.Entries() {
			if e.C != sample.Cmd(i) || e.Err != api.OK {
				t.Errorf("T2: entry %d is %v, %v", i, e.C, e.Err)
			}
		}
		for i := range w.N() {
			x := w.Node(i).State().Log()
			if !slices.Equal(x.Entries(), first.Entries()) || x.Book() != first.Book() || !exec.Prefix(x.Entries(), first.Entries()) {
				t.Errorf("T1: replica %d executed something else", i)
			}
		}
		if b := first.Book(); b.Has[0] != 85 || b.Has[1] != 115 {
			t.Errorf("T1: the accounts are %v", b.Has)
		}
	}
}

func TestAReplicaThatWasDownCatchesUp(t *testing.T) {
	c := conf(1)
	c.Height, c.Wait = 8, 2
	w := made(t, c)
	w.Crash(3)
	w.Ask(sample.Cmd(0))
	run(w, 10, 30)
	w.Start(3)
	w.Tick(3, 300)
	run(w, 10, 30)
	for i := range w.N() {
		if x := w.Node(i).State().Log(); len(x.Entries()) != 1 {
			t.Errorf("T1: replica %d executed %d commands", i, len(x.Entries()))
		}
	}
}

func TestNoLeafIsUsedTwice(t *testing.T) {
	w := made(t, conf(1))
	used := map[[2]int]string{}
	check := func(s stamp.Stamp) {
		at := [2]int{s.Sig.Who, s.Sig.Leaf}
		words := stamp.Words(s.Cmd, s.Who, s.At)
		if old, ok := used[at]; ok && old != words {
			t.Errorf("T3: leaf %d of replica %d signs %s and %s", at[1], at[0], old, words)
		}
		used[at] = words
	}
	for i := range 12 {
		w.Ask(sample.Cmd(i))
		for range 4 {
			if i%3 == 1 {
				w.Torn(0, i%4)
			}
			w.Deliver(0)
		}
		for _, m := range w.Ways() {
			if m.Kind == msg.Stamped {
				check(m.Stamp)
			}
		}
		for j := range w.N() {
			w.Start(j)
		}
	}
	if len(used) < 12 {
		t.Errorf("T3: only %d leaves are used", len(used))
	}
	for i := range w.N() {
		if s, e := memo.Fold(16, []int64{100, 100}, w.Node(i).Recs()); e != api.OK || s.Leaf() != w.Node(i).State().Leaf() || s.Floor() != w.Node(i).State().Floor() {
			t.Errorf("T3: replica %d is not in the state that its records describe", i)
		}
	}
}

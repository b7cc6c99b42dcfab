package judge_test

import (
	"math/rand"
	"slices"
	"testing"

	"folkmoot/ack"
	"folkmoot/api"
	"folkmoot/block"
	"folkmoot/cut"
	"folkmoot/judge"
	"folkmoot/median"
	"folkmoot/msg"
	"folkmoot/pace"
	"folkmoot/sample"
	"folkmoot/world"
)

// day makes up a list of acts at random, with bad replicas that sign whatever they like.
type day struct {
	r    *rand.Rand
	w    *world.World
	s    sample.Set
	conf world.Conf
	bad  []int
	acts []judge.Act
	errs []api.Errno

	trouble int // in a hundred deliveries
}

func newDay(t *testing.T, f int, seed int64) *day {
	t.Helper()
	c := conf(f)
	d := &day{r: rand.New(rand.NewSource(seed)), conf: c}
	d.conf.Margin = int64(20*f + d.r.Intn(100))
	d.conf.Wait = 1 + d.r.Intn(6)
	d.conf.Disk = []int{60, 200, 1000}[d.r.Intn(3)]
	d.conf.Room = []int{2, 8, 64}[d.r.Intn(3)]
	d.trouble = []int{0, 2, 10}[d.r.Intn(3)]
	d.w = made(t, d.conf)
	d.bad = d.r.Perm(d.w.N())[:d.r.Intn(f+1)]
	d.keys()
	return d
}

// keys takes the keys of the bad replicas anew: they use their leaves as often as they like.
func (d *day) keys() { d.s = sample.New(d.conf.F, d.conf.Height) }

func (d *day) do(a judge.Act) {
	d.acts = append(d.acts, a)
	d.errs = append(d.errs, judge.Do(d.w, a))
}

// round lets time pass, and then messages arrive, with some trouble.
func (d *day) round() {
	if d.r.Intn(2) == 0 {
		d.do(judge.Act{Op: []string{"ask", "ask", "retry"}[d.r.Intn(3)], C: sample.Cmd(d.r.Intn(12))})
	}
	by := int64(d.r.Intn(50))
	for i := range d.w.N() {
		if d.w.Node(i).Down() && d.r.Intn(3) == 0 {
			d.do(judge.Act{Op: "start", A: i})
		}
		d.do(judge.Act{Op: "tick", A: i, N: by + int64(d.r.Intn(5))})
	}
	for range d.r.Intn(30 * d.w.N()) {
		if d.r.Intn(100) < d.trouble {
			d.hinder()
		}
		if len(d.bad) > 0 && d.r.Intn(8) == 0 {
			d.keys()
			d.do(judge.Act{Op: "inject", M: d.lie(d.bad[d.r.Intn(len(d.bad))])})
		}
		d.do(judge.Act{Op: "deliver", A: d.place()})
	}
}

// place is most often the first place of the list.
func (d *day) place() int {
	if d.r.Intn(3) > 0 {
		return 0
	}
	return d.r.Intn(20) - 1
}

func (d *day) hinder() {
	switch d.r.Intn(5) {
	case 0:
		d.do(judge.Act{Op: "torn", A: d.place(), B: d.r.Intn(5) - 1})
	case 1:
		d.do(judge.Act{Op: "drop", A: d.place()})
	case 2, 3:
		d.do(judge.Act{Op: "copy", A: d.place()})
	case 4:
		d.do(judge.Act{Op: "crash", A: d.r.Intn(d.w.N())})
	}
}

// under is a message that is under way, which a lie may build on.
func (d *day) under() msg.Msg {
	l := d.w.Ways()
	if len(l) == 0 {
		return msg.Msg{}
	}
	return l[d.r.Intn(len(l))]
}

func (d *day) lie(who int) msg.Msg {
	m := msg.Msg{Kind: 1 + d.r.Intn(9), From: who, To: d.r.Intn(d.w.N() + 1)}
	old := d.under()
	switch m.Kind {
	case msg.Stamped:
		m.To = d.w.N()
		m.Stamp = d.s.Stamp(who, sample.Cmd(d.r.Intn(12)), 1+int64(d.r.Intn(3000)))
	case msg.Acked:
		m.To = d.w.N()
		if certs := d.w.Client().Certs(); len(certs) > 0 {
			m.Ack = d.s.Ack(who, certs[d.r.Intn(len(certs))])
		} else {
			m.Ack = ack.Ack{}
		}
	case msg.Close:
		m.Lo = int64(d.r.Intn(1500))
		m.Hi = m.Lo + int64(d.r.Intn(300))
	case msg.Closed:
		m.Report = d.s.Report(who, old.Lo, old.Hi, d.some()...)
	case msg.Propose:
		m.Block, m.Chain = d.block(who)
	case msg.Voted:
		b := old.Block
		if len(old.Chain) > 0 {
			b, m.Chain = old.Chain[len(old.Chain)-1], old.Chain
		}
		m.Vote, m.To = d.s.Vote(who, b.View, block.Digest(b)), pace.Leader(d.s.Keys.Conf, b.View+1)
	case msg.Next:
		view := 1 + d.r.Intn(20)
		m.View, m.To = d.s.NewView(who, view, old.Block.QC), pace.Leader(d.s.Keys.Conf, view)
	case msg.Certify:
		if l := d.some(); len(l) > 0 {
			m.Cert = l[0]
		}
	}
	return m
}

// some is a choice of the certificates that there are, in order.
func (d *day) some() []median.Cert {
	var r []cut.Report
	for _, c := range d.w.Client().Certs() {
		if d.r.Intn(2) == 0 {
			r = append(r, cut.Report{Certs: []median.Cert{c}})
		}
	}
	return cut.Union(r)
}

// block proposes again what was proposed, with other reports or on another parent.
func (d *day) block(who int) (block.Block, []block.Block) {
	for range 20 {
		old := d.under()
		if old.Kind != msg.Propose {
			continue
		}
		b := old.Block
		if d.r.Intn(2) == 0 {
			b.View = b.View - b.View%d.w.N() + who + d.w.N()*d.r.Intn(2)
		}
		for i, r := range b.Reports {
			if r.Who == who {
				b.Reports[i] = d.s.Report(who, r.Lo, r.Hi, d.some()...)
			}
		}
		return b, old.Chain
	}
	return block.Block{}, nil
}

// TestAnyDay plays days of all kinds: no theorem may fail in any of them.
func TestAnyDay(t *testing.T) {
	executed := 0
	for seed := range int64(24) {
		d := newDay(t, 1+int(seed%8)/7, seed)
		for range 16 {
			d.round()
		}
		r, e := judge.Day(d.conf, d.bad, d.acts)
		if e != api.OK || !r.Clean || len(r.Bad) != 0 {
			t.Errorf("P2705, P2802: day %d with the bad replicas %v: Clean %v, Bad %v, %v", seed, d.bad, r.Clean, r.Bad, e)
		}
		if !slices.Equal(r.Errs, d.errs) {
			t.Errorf("P3: day %d ended otherwise when it was played again", seed)
		}
		executed += slices.Max(r.Logs)
	}
	if executed < 20 {
		t.Errorf("P2802: only %d commands were executed in all days", executed)
	}
}

// TestCalmAfterAnyDay asks that a world that had a bad day goes on.
func TestCalmAfterAnyDay(t *testing.T) {
	for seed := range int64(4) {
		d := newDay(t, 1, 100+seed)
		d.conf.Disk, d.conf.Room, d.conf.Height, d.conf.Margin = 1<<12, 64, 8, 60
		d.w = made(t, d.conf)
		for range 6 {
			d.round()
		}
		d.do(judge.Act{Op: "ask", C: sample.Cmd(50)})
		judge.Calm(d.w, 30, 40)
		first := d.w.Node(0).State().Log().Entries()
		if len(first) == 0 {
			t.Errorf("T5: nothing is executed after day %d", seed)
		}
	}
}

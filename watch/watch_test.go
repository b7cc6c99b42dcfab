package watch_test

import (
	"slices"
	"testing"

	"folkmoot/ack"
	"folkmoot/api"
	"folkmoot/block"
	"folkmoot/cmd"
	"folkmoot/cut"
	"folkmoot/hash"
	"folkmoot/median"
	"folkmoot/msg"
	"folkmoot/sample"
	"folkmoot/stamp"
	"folkmoot/watch"
	"folkmoot/world"
)

const height = 7

var accounts = []int64{100, 100}

// made is a world of which the test has all keys.
func made(t *testing.T) (*world.World, sample.Set) {
	t.Helper()
	w, e := world.New(world.Conf{
		F: 1, Seed: sample.Seed, Height: height, Lease: 8, Wait: 5, Margin: 50, Room: 16, Disk: 500, Accounts: accounts,
	})
	if e != api.OK {
		t.Fatalf("P2701: New = %v", e)
	}
	return w, sample.New(1, height)
}

// run lets all messages arrive in their order, and has seen them all.
func run(w *world.World, rounds int) []msg.Msg {
	seen := w.Ways()
	for range rounds {
		for i := range w.N() {
			old := len(w.Ways())
			w.Tick(i, 30)
			seen = append(seen, w.Ways()[old:]...)
		}
		for l := w.Ways(); len(l) > 0; l = w.Ways() {
			w.Deliver(0)
			seen = append(seen, w.Ways()[len(l)-1:]...)
		}
	}
	return seen
}

func all(w *world.World, bad []int, seen []msg.Msg) []bool {
	return []bool{
		watch.Clean(w, bad, seen), watch.Agree(w, bad), watch.Books(w, accounts, bad),
		watch.Fair(w, bad, seen), watch.Kept(w, bad), watch.Once(w, bad),
	}
}

func TestNewWorld(t *testing.T) {
	w, _ := made(t)
	if l := all(w, nil, nil); slices.Contains(l, false) {
		t.Errorf("P2701: a new world: %v", l)
	}
	if l := all(w, []int{0, 1, 2, 3, -1, 99}, nil); slices.Contains(l, false) {
		t.Errorf("P2701: a new world without honest replicas: %v", l)
	}
}

func TestWorldThatRan(t *testing.T) {
	w, _ := made(t)
	for i := range 3 {
		w.Ask(sample.Cmd(i))
	}
	seen := run(w, 6)
	if n := len(w.Node(0).State().Log().Entries()); n != 3 {
		t.Fatalf("P2705: %d commands are executed", n)
	}
	w.Crash(2)
	for _, bad := range [][]int{nil, {1}, {3, 0}} {
		if l := all(w, bad, seen); slices.Contains(l, false) {
			t.Errorf("P2705: with the bad replicas %v: %v", bad, l)
		}
	}
}

// signedThings has one message for each place in which something that replica 0 signed can be,
// none of which it Signed.
func signedThings(s sample.Set) map[string]msg.Msg {
	a := s.Stamp(0, sample.Cmd(0), 50)
	c := median.Cert{C: sample.Cmd(1), Stamps: []stamp.Stamp{{Who: 9}, s.Stamp(0, sample.Cmd(1), 50)}}
	foreign := cut.Report{Who: 9, Certs: []median.Cert{c}}
	q := block.QC{View: 1, Votes: []block.Vote{s.Vote(0, 1, 7)}}
	inBlock := map[string]block.Block{
		"QC": {View: 2, QC: q}, "report": {View: 2, Reports: []cut.Report{s.Report(0, 3, 4)}},
		"certificate": {View: 2, Reports: []cut.Report{{Who: 8}, foreign}}, "QC of a negative view": {View: -1, QC: q},
	}
	m := map[string]msg.Msg{
		"stamp": {Kind: msg.Stamped, Stamp: a}, "stamp of another kind": {Kind: msg.Next, Stamp: a},
		"certificate": {Kind: msg.Certify, Cert: c}, "ack": {Kind: msg.Acked, Ack: s.Ack(0, c)},
		"report": {Kind: msg.Closed, Report: s.Report(0, 5, 9)}, "report of another kind": {Kind: msg.Ask, Report: s.Report(0, 5, 9)},
		"certificate in a report": {Kind: msg.Closed, Report: foreign},
		"vote":                    {Kind: msg.Voted, Vote: s.Vote(0, 3, 7)}, "NewView": {Kind: msg.Next, View: s.NewView(0, 3, block.QC{})},
		"QC in a NewView": {Kind: msg.Next, View: s.NewView(9-6, 3, q)},
	}
	for name, b := range inBlock {
		m[name+" in a block"] = msg.Msg{Kind: msg.Propose, Block: b}
		m[name+" in a chain"] = msg.Msg{Kind: msg.Acked, Chain: []block.Block{{View: 9}, b}}
	}
	return m
}

func TestCleanSeesForgedSignatures(t *testing.T) {
	w, s := made(t)
	w.Crash(0)
	for name, m := range signedThings(s) {
		bad := []int{3}
		if watch.Clean(w, bad, []msg.Msg{{Kind: msg.Ask}, m}) {
			t.Errorf("P2701: a forged %s is clean", name)
		}
		if !watch.Clean(w, []int{0, 3}, []msg.Msg{m}) {
			t.Errorf("P2701: a %s of a bad replica is not clean", name)
		}
	}
}

func TestCleanLooksAtValidSignaturesOnly(t *testing.T) {
	w, s := made(t)
	a := s.Stamp(0, sample.Cmd(0), 50)
	moved, renamed, broken := a, a, a
	moved.At++
	renamed.Sig.Who = 1
	broken.Sig.One[0]++
	alien := a
	alien.Who = 7
	none := block.Block{QC: block.QC{Votes: []block.Vote{s.Vote(0, 1, 7)}}, Reports: []cut.Report{s.Report(0, 3, 4)}}
	for i, m := range []msg.Msg{
		{Stamp: moved}, {Stamp: renamed}, {Stamp: broken}, {Stamp: alien},
		{Block: none}, {Block: none, Chain: []block.Block{none}},
	} {
		if !watch.Clean(w, nil, []msg.Msg{m}) {
			t.Errorf("P2701: case %d is not clean", i)
		}
	}
	if watch.Clean(w, nil, []msg.Msg{{Stamp: a}}) {
		t.Error("P2701: the stamp itself is clean")
	}
}

func TestCleanTakesWhatWasSigned(t *testing.T) {
	w, _ := made(t)
	w.Ask(sample.Cmd(0))
	seen := run(w, 3)
	if !watch.Clean(w, nil, seen) {
		t.Error("P2701: a world that ran is not clean")
	}
	other, _ := made(t)
	if watch.Clean(other, nil, seen) {
		t.Error("P2701: the signatures of another world are clean")
	}
}

// sameDigests has pairs of things whose texts are different and have the same digest. Each pair
// was found by a search of some minutes.
func sameDigests() map[string][2]msg.Msg {
	pay := func(from, to int) cmd.Cmd { return cmd.Cmd{From: from, To: to, Amount: 1} }
	on := func(parent hash.Digest) msg.Msg {
		return msg.Msg{Block: block.Block{View: 1, Parent: parent, Hi: 1}}
	}
	return map[string][2]msg.Msg{
		"stamp": {
			{Stamp: stamp.Stamp{Cmd: 0xb86b99579339f06f, At: 1}}, {Stamp: stamp.Stamp{Cmd: 0x76d71cc68fb94a3e, At: 1}},
		},
		"command":     {{Cmd: pay(0x8c771219, 0xa06e2455)}, {Cmd: pay(0xf8ded285, 0xece14bb1)}},
		"certificate": {{Cert: median.Cert{C: pay(0x4ae815cb, 0xc12319cd)}}, {Cert: median.Cert{C: pay(0xc7f76ffb, 0x8a59402a)}}},
		"block":       {on(0x5a6b0cd9bc937b1e), on(0x1ef47de7fbd8c767)},
	}
}

func TestTheDigestsAreTheSame(t *testing.T) {
	l := sameDigests()
	if a, b := l["command"][0].Cmd, l["command"][1].Cmd; a == b || cmd.Digest(a) != cmd.Digest(b) {
		t.Error("the two commands have not one digest")
	}
	if a, b := l["stamp"][0].Stamp.Cmd, l["stamp"][1].Stamp.Cmd; a == b || stamp.Digest(a, 0, 1) != stamp.Digest(b, 0, 1) {
		t.Error("the two stamps have not one digest")
	}
	if a, b := l["certificate"][0].Cert, l["certificate"][1].Cert; median.Same(a, b) || median.Digest(a) != median.Digest(b) {
		t.Error("the two certificates have not one digest")
	}
	if a, b := l["block"][0].Block, l["block"][1].Block; a.Parent == b.Parent || block.Digest(a) != block.Digest(b) {
		t.Error("the two blocks have not one digest")
	}
}

func TestCleanSeesForgedDigests(t *testing.T) {
	w, _ := made(t)
	for name, l := range sameDigests() {
		if watch.Clean(w, nil, l[:]) || watch.Clean(w, []int{0, 1, 2, 3}, []msg.Msg{l[1], {}, l[0]}) {
			t.Errorf("P2701: two texts of one digest are clean: %s", name)
		}
		if !watch.Clean(w, nil, []msg.Msg{l[0], l[0]}) || !watch.Clean(w, nil, l[1:]) {
			t.Errorf("P2701: one text alone is not clean: %s", name)
		}
	}
}

// TestCleanReadsWhatWasSigned has two commands for which the Words of a stamp of replica 0 at the
// time 1000 have the same digest.
func TestCleanReadsWhatWasSigned(t *testing.T) {
	w, _ := made(t)
	a := cmd.Cmd{Client: 2, Nonce: 777032, From: 1, To: 3, Amount: 3438181524}
	b := cmd.Cmd{Client: 15, Nonce: 205159, From: 15, To: 4, Amount: 7941306892}
	other := stamp.Stamp{Cmd: cmd.Digest(b), At: 1000}
	if cmd.Digest(a) == other.Cmd || stamp.Digest(cmd.Digest(a), 0, 1000) != stamp.Digest(other.Cmd, 0, 1000) {
		t.Fatal("the two stamps have not one digest")
	}
	if !watch.Clean(w, nil, []msg.Msg{{Stamp: other}}) {
		t.Error("P2701: one text alone is not clean")
	}
	w.Ask(a)
	w.Deliver(0)
	if watch.Clean(w, nil, []msg.Msg{{Stamp: other}}) {
		t.Error("P2701: a text with the digest of one that was signed is clean")
	}
	if !watch.Clean(w, []int{0}, []msg.Msg{{Stamp: other}}) {
		t.Error("P2701: what a bad replica Signed is read")
	}
	w.Crash(0)
	if watch.Clean(w, nil, []msg.Msg{{Stamp: other}}) {
		t.Error("P2701: what a replica that is down Signed is not read")
	}
}

func TestCleanSeesForgedDigestsInBlocks(t *testing.T) {
	w, _ := made(t)
	l := sameDigests()
	a, b := l["stamp"][0], l["stamp"][1].Stamp
	deep := median.Cert{C: l["command"][1].Cmd, Stamps: []stamp.Stamp{b}}
	hidden := block.Block{View: 1, Reports: []cut.Report{{}, {Certs: []median.Cert{{}, deep}}}}
	for i, m := range []msg.Msg{
		{Chain: []block.Block{{View: 5}, hidden}}, {Block: hidden}, {Report: hidden.Reports[1]}, {Cert: deep},
	} {
		if watch.Clean(w, []int{0}, []msg.Msg{a, m}) || watch.Clean(w, []int{0}, []msg.Msg{m, l["command"][0]}) {
			t.Errorf("P2701: case %d: two texts of one digest are clean, one of them deep in a message", i)
		}
	}
	hidden.View = 0
	if !watch.Clean(w, nil, []msg.Msg{{Stamp: a.Stamp, Block: hidden, Chain: []block.Block{hidden}}}) {
		t.Error("P2701: a block in the View 0 is examined")
	}
}

// commits makes a replica commit a block with these certificates, which all keys sign.
func commits(t *testing.T, w *world.World, s sample.Set, who int, hi int64, certs ...median.Cert) {
	t.Helper()
	a := s.Block(1, block.Genesis(), hi, certs...)
	chain := []block.Block{a}
	for v := 2; v <= 4; v++ {
		chain = append(chain, s.Block(v, chain[v-2], hi+int64(v)))
	}
	w.Inject(msg.Msg{Kind: msg.Acked, To: who, Chain: chain})
	for len(w.Ways()) > 0 {
		w.Deliver(0)
	}
	if x := w.Node(who).State().Log(); x.Hi() != hi {
		t.Fatalf("replica %d executed up to %d", who, x.Hi())
	}
}

func TestAgree(t *testing.T) {
	w, s := made(t)
	a, b := s.Cert(sample.Cmd(0), 50), s.Cert(sample.Cmd(1), 60)
	commits(t, w, s, 0, 100, a)
	commits(t, w, s, 1, 90, a, b)
	if !watch.Agree(w, nil) {
		t.Error("P2702: a log and a beginning of it do not agree")
	}
	commits(t, w, s, 3, 80, b)
	for _, c := range []struct {
		bad  []int
		want bool
	}{{nil, false}, {[]int{3}, true}, {[]int{0}, false}, {[]int{1}, false}, {[]int{2}, false}, {[]int{0, 1}, true}, {[]int{7}, false}} {
		if watch.Agree(w, c.bad) != c.want {
			t.Errorf("P2702: with the bad replicas %v Agree is not %v", c.bad, c.want)
		}
	}
	w.Crash(3)
	if !watch.Agree(w, nil) {
		t.Error("P2702: a replica that is down is examined")
	}
}

func TestBooks(t *testing.T) {
	w, s := made(t)
	commits(t, w, s, 1, 90, s.Cert(sample.Cmd(0), 50))
	if !watch.Books(w, accounts, nil) {
		t.Error("P2702: the book is not the result of its log")
	}
	for _, other := range [][]int64{{100}, {99, 101}, nil, {100, 100, 1}, {-1}} {
		if watch.Books(w, other, nil) {
			t.Errorf("P2702: the book follows from the accounts %v", other)
		}
	}
	if !watch.Books(w, nil, []int{0, 1, 2, 3}) {
		t.Error("P2702: bad replicas are examined")
	}
}

func stamps(s sample.Set, nonce int, at ...int64) []msg.Msg {
	var l []msg.Msg
	for who, t := range at {
		if t > 0 {
			l = append(l, msg.Msg{Kind: msg.Stamped, Stamp: s.Stamp(who, sample.Cmd(nonce), t)})
		}
	}
	return l
}

func TestFairTimes(t *testing.T) {
	w, s := made(t)
	commits(t, w, s, 1, 90, s.Cert(sample.Cmd(0), 50))
	for i, c := range []struct {
		bad  []int
		seen []msg.Msg
		want bool
	}{
		{nil, stamps(s, 0, 50), true},
		{nil, stamps(s, 0, 40, 60), true},
		{nil, stamps(s, 0, 51, 60), false},
		{nil, stamps(s, 0, 40, 49), false},
		{[]int{0}, stamps(s, 0, 40, 60), false},
		{[]int{0}, stamps(s, 0, 40, 60, 45), true},
		{nil, append(stamps(s, 0, 60), stamps(s, 1, 40)...), false},
		{nil, append(stamps(s, 0, 60), msg.Msg{Cert: median.Cert{Stamps: s.Stamps(sample.Cmd(0), 40)}}), true},
		{nil, append(stamps(s, 0, 60), msg.Msg{Report: cut.Report{Certs: []median.Cert{{Stamps: s.Stamps(sample.Cmd(0), 40)}}}}), true},
		{nil, append(stamps(s, 0, 60), msg.Msg{Chain: []block.Block{s.Block(1, block.Genesis(), 90, s.Cert(sample.Cmd(0), 40))}}), true},
	} {
		if watch.Fair(w, c.bad, c.seen) != c.want {
			t.Errorf("P2703: case %d: Fair is not %v", i, c.want)
		}
	}
	forged := stamps(s, 0, 60, 40)
	forged[1].Stamp.At = 41
	if watch.Fair(w, nil, forged) {
		t.Error("P2703: a stamp that is not signed counts")
	}
	if !watch.Fair(w, []int{1}, stamps(s, 0, 60)) {
		t.Error("P2703: a bad replica is examined")
	}
	w.Crash(1)
	if !watch.Fair(w, nil, stamps(s, 0, 60)) {
		t.Error("P2703: a replica that is down is examined")
	}
}

func TestFairOrder(t *testing.T) {
	w, s := made(t)
	commits(t, w, s, 2, 90, s.Cert(sample.Cmd(0), 50), s.Cert(sample.Cmd(1), 60))
	for i, c := range []struct {
		bad           []int
		first, second []int64
		want          bool
	}{
		{nil, []int64{50, 50}, []int64{60, 60}, true},
		{nil, []int64{50, 70}, []int64{40, 65}, true},
		{nil, []int64{50, 75, 50}, []int64{60, 40, 74}, true},
		{nil, []int64{50}, []int64{60, 50}, true},
		{[]int{0}, []int64{66, 80, 40}, []int64{10, 65, 45}, true},
	} {
		seen := append(stamps(s, 0, c.first...), stamps(s, 1, c.second...)...)
		if watch.Fair(w, c.bad, seen) != c.want {
			t.Errorf("P2703: case %d: Fair is not %v", i, c.want)
		}
	}
}

// TestFairOrderBroken needs a log whose order goes against the times: the times of the
// certificates are within what was signed, but a command in a later block was seen earlier.
func TestFairOrderBroken(t *testing.T) {
	w, s := made(t)
	late, early := s.Cert(sample.Cmd(0), 50), median.Cert{C: sample.Cmd(1), Stamps: s.Stamps(sample.Cmd(1), 40, 95, 95)}
	a := s.Block(1, block.Genesis(), 90, late)
	b := s.Block(2, a, 100, early)
	chain := []block.Block{a, b, s.Block(3, b, 110)}
	chain = append(chain, s.Block(4, chain[2], 120))
	chain = append(chain, s.Block(5, chain[3], 130))
	w.Inject(msg.Msg{Kind: msg.Acked, To: 2, Chain: chain})
	w.Deliver(0)
	if n := len(w.Node(2).State().Log().Entries()); n != 2 {
		t.Fatalf("%d commands are executed", n)
	}
	seen := func(second ...int64) []msg.Msg {
		return append(stamps(s, 0, 50, 50, 50), stamps(s, 1, second...)...)
	}
	if !watch.Fair(w, nil, seen(50, 95)) || !watch.Fair(w, []int{1}, seen(40, 1, 95)) {
		t.Error("P2703: times that overlap put the commands in order")
	}
	if watch.Fair(w, []int{2}, nil) != true {
		t.Error("P2703: a bad replica is examined")
	}
	if watch.Fair(w, nil, seen(40, 49)) {
		t.Error("P2703: a command that all saw first comes second")
	}
}

// sequenced gives the client of a world a Seq for a certificate at a time.
func sequenced(t *testing.T, w *world.World, s sample.Set, nonce int, at int64) median.Cert {
	t.Helper()
	c := sample.Cmd(nonce)
	w.Client().Ask(c)
	for _, x := range s.Stamps(c, at, at, at) {
		w.Client().In(msg.Msg{Kind: msg.Stamped, To: 4, Stamp: x})
	}
	certs := w.Client().Certs()
	cert := certs[len(certs)-1]
	for _, a := range s.Acks(3, cert) {
		w.Client().In(msg.Msg{Kind: msg.Acked, To: 4, Ack: a})
	}
	if l := w.Client().Seqs(); len(l) == 0 || ack.ValidSeq(s.Keys, l[len(l)-1]) != api.OK {
		t.Fatal("no Seq")
	}
	return cert
}

func TestKept(t *testing.T) {
	w, s := made(t)
	mine := sequenced(t, w, s, 0, 50)
	sequenced(t, w, s, 1, 101)
	if !watch.Kept(w, nil) {
		t.Error("P2704: a time that is not reached counts")
	}
	commits(t, w, s, 0, 100, mine)
	if !watch.Kept(w, nil) {
		t.Error("P2704: an executed certificate is missed")
	}
	other := cmd.Cmd{Client: sample.Cmd(0).Client, Nonce: sample.Cmd(0).Nonce, From: 3, To: 4, Amount: 1}
	commits(t, w, s, 1, 100, s.Cert(other, 40))
	if !watch.Kept(w, nil) {
		t.Error("P2704: a command with the same ID does not count")
	}
	commits(t, w, s, 2, 49)
	if !watch.Kept(w, nil) {
		t.Error("P2704: a time that is not reached counts")
	}
	commits(t, w, s, 3, 50)
	if watch.Kept(w, nil) || watch.Kept(w, []int{0}) {
		t.Error("P2704: what was acknowledged is not executed, and nobody misses it")
	}
	if !watch.Kept(w, []int{3}) {
		t.Error("P2704: a bad replica is examined")
	}
	w.Crash(3)
	if !watch.Kept(w, nil) {
		t.Error("P2704: a replica that is down is examined")
	}
}

func TestOnce(t *testing.T) {
	w, s := made(t)
	again := sample.Cmd(0)
	again.Amount++
	commits(t, w, s, 0, 90, s.Cert(sample.Cmd(0), 50), s.Cert(again, 60), s.Cert(sample.Cmd(0), 70))
	if n := len(w.Node(0).State().Log().Entries()); n != 1 || !watch.Once(w, nil) {
		t.Errorf("P2704: %d entries of one ID", n)
	}
}

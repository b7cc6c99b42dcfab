// Package promises_test tests what holds everywhere: P1 and P3 for arguments of all kinds.
package promises_test

import (
	"math"
	"math/rand"
	"reflect"
	"testing"

	"folkmoot/ack"
	"folkmoot/api"
	"folkmoot/block"
	"folkmoot/book"
	"folkmoot/client"
	"folkmoot/clock"
	"folkmoot/cmd"
	"folkmoot/cut"
	"folkmoot/exec"
	"folkmoot/field"
	"folkmoot/hash"
	"folkmoot/judge"
	"folkmoot/key"
	"folkmoot/median"
	"folkmoot/memo"
	"folkmoot/merkle"
	"folkmoot/msg"
	"folkmoot/node"
	"folkmoot/ots"
	"folkmoot/pace"
	"folkmoot/pool"
	"folkmoot/quorum"
	"folkmoot/safe"
	"folkmoot/sample"
	"folkmoot/stamp"
	"folkmoot/tree"
	"folkmoot/watch"
	"folkmoot/world"
)

// maker makes values of any type at random, odd ones more often than not.
type maker struct {
	r *rand.Rand
	s sample.Set
}

func newMaker(seed int64) *maker {
	return &maker{r: rand.New(rand.NewSource(seed)), s: sample.New(1, 3)}
}

func pick[T any](m *maker, l ...T) T { return l[m.r.Intn(len(l))] }

func (m *maker) number() int64 {
	return pick[int64](m, math.MinInt64, math.MinInt32-1, -1, 0, 0, 1, 1, 2, 3, 4, 5, 8, 16, 50, 255, 256, 257, 1<<16, 1<<20, 1<<20+1,
		1<<40, 1<<40+1, math.MaxInt32+1, 0x5555555555555555, math.MaxInt64)
}

// cert is in order more often than chance would have it.
func (m *maker) cert() median.Cert { return m.s.Cert(sample.Cmd(m.r.Intn(3)), 1+int64(m.r.Intn(90))) }

func (m *maker) block() block.Block {
	a := m.s.Block(1, block.Genesis(), 100, m.cert())
	return pick(m, a, m.s.Block(2, a, 150), block.Genesis())
}

// object makes an object by its constructor; nil where there is none.
func (m *maker) object(t reflect.Type) any {
	switch t {
	case reflect.TypeFor[*key.Key]():
		k, _ := key.New(m.r.Intn(4), m.r.Uint64(), m.r.Intn(3))
		return k
	case reflect.TypeFor[*pool.Pool]():
		p, _ := pool.New(2)
		p.Accept(m.cert())
		return p
	case reflect.TypeFor[*tree.Tree]():
		t := tree.New()
		t.Add(m.block())
		return t
	case reflect.TypeFor[*world.World]():
		return m.world()
	}
	return nil
}

func (m *maker) world() *world.World {
	w, _ := world.New(world.Conf{F: 1, Seed: sample.Seed, Height: 3, Lease: 2, Wait: 2, Margin: 10, Room: 4, Disk: 20, Accounts: []int64{9, 9}})
	w.Ask(sample.Cmd(0))
	judge.Calm(w, m.r.Intn(3), 30)
	return w
}

// known is a value that is in order, for the types of which chance makes none.
func (m *maker) known(t reflect.Type) any {
	switch t {
	case reflect.TypeFor[stamp.Keys]():
		return m.s.Keys
	case reflect.TypeFor[median.Cert]():
		return m.cert()
	case reflect.TypeFor[block.Block]():
		return m.block()
	case reflect.TypeFor[block.QC]():
		return m.s.QC(m.block())
	case reflect.TypeFor[cut.Report]():
		return m.s.Report(m.r.Intn(4), 0, 100, m.cert())
	case reflect.TypeFor[cmd.Cmd]():
		return sample.Cmd(0)
	case reflect.TypeFor[quorum.Conf]():
		return quorum.Conf{F: 1}
	}
	return nil
}

func (m *maker) value(t reflect.Type) reflect.Value {
	if x := m.object(t); x != nil {
		return reflect.ValueOf(x)
	}
	if x := m.known(t); x != nil && m.r.Intn(3) > 0 {
		return reflect.ValueOf(x)
	}
	v := reflect.New(t).Elem()
	switch t.Kind() {
	case reflect.Int, reflect.Int64:
		v.SetInt(m.number())
	case reflect.Uint64:
		v.SetUint(pick[uint64](m, 0, 1, 5, m.r.Uint64(), math.MaxUint64))
	case reflect.Uint8:
		v.SetUint(uint64(m.r.Intn(256)))
	case reflect.Bool:
		v.SetBool(m.r.Intn(2) == 0)
	case reflect.String:
		v.SetString(pick(m, "", "|", `|\`, `|a\|b`, "1,2,3,4,5", "-", "deliver", "torn", "0123456789abcdef", median.Text(m.cert())))
	case reflect.Slice:
		for range m.r.Intn(4) {
			v.Set(reflect.Append(v, m.value(t.Elem())))
		}
	case reflect.Array:
		for i := range t.Len() {
			v.Index(i).Set(m.value(t.Elem()))
		}
	case reflect.Struct:
		for i := range t.NumField() {
			v.Field(i).Set(m.value(t.Field(i).Type))
		}
	}
	return v
}

// call calls a function with any arguments.
func (m *maker) call(t *testing.T, name string, f reflect.Value) []any {
	var args []reflect.Value
	for i := range f.Type().NumIn() {
		args = append(args, m.value(f.Type().In(i)))
	}
	defer func() {
		if e := recover(); e != nil {
			t.Errorf("P1: %s panics: %v", name, e)
		}
	}()
	var l []any
	for _, v := range f.Call(args) {
		if k := v.Kind(); k != reflect.Pointer && k != reflect.Map {
			l = append(l, v.Interface())
		}
	}
	return l
}

func functions() map[string]any {
	return map[string]any{
		"field.Join": field.Join, "field.Split": field.Split, "field.Num": field.Num, "field.ParseNum": field.ParseNum, "field.Nums": field.Nums, "field.ParseNums": field.ParseNums,
		"hash.Mix": hash.Mix, "hash.Sum": hash.Sum, "hash.Two": hash.Two, "hash.Chain": hash.Chain, "hash.Of": hash.Of, "hash.Text": hash.Text, "hash.Parse": hash.Parse,
		"ots.Secrets": ots.Secrets, "ots.Digits": ots.Digits, "ots.Pub": ots.Pub, "ots.Sign": ots.Sign, "ots.Recover": ots.Recover, "ots.Verify": ots.Verify,
		"merkle.Root": merkle.Root, "merkle.Path": merkle.Path, "merkle.Climb": merkle.Climb, "merkle.Verify": merkle.Verify,
		"key.New": key.New, "key.Verify": key.Verify, "key.Text": key.Text, "key.Parse": key.Parse, "key.Same": key.Same,
		"quorum.Check": quorum.Check, "quorum.N": quorum.N, "quorum.Q": quorum.Q, "quorum.Distinct": quorum.Distinct, "quorum.Enough": quorum.Enough, "quorum.Common": quorum.Common,
		"cmd.Check": cmd.Check, "cmd.Digest": cmd.Digest, "cmd.Text": cmd.Text, "cmd.Parse": cmd.Parse, "cmd.SameID": cmd.SameID, "clock.New": clock.New,
		"stamp.CheckKeys": stamp.CheckKeys, "stamp.Words": stamp.Words, "stamp.Digest": stamp.Digest, "stamp.Make": stamp.Make, "stamp.Valid": stamp.Valid, "stamp.Text": stamp.Text, "stamp.Parse": stamp.Parse, "stamp.Same": stamp.Same,
		"median.Of": median.Of, "median.Make": median.Make, "median.Valid": median.Valid, "median.At": median.At, "median.Digest": median.Digest, "median.Text": median.Text, "median.Parse": median.Parse, "median.Same": median.Same,
		"pool.New": pool.New, "ack.Words": ack.Words, "ack.Digest": ack.Digest, "ack.Make": ack.Make, "ack.Valid": ack.Valid, "ack.Gather": ack.Gather, "ack.ValidSeq": ack.ValidSeq, "ack.Text": ack.Text, "ack.Parse": ack.Parse,
		"cut.Words": cut.Words, "cut.Digest": cut.Digest, "cut.Make": cut.Make, "cut.Valid": cut.Valid, "cut.Union": cut.Union, "cut.Text": cut.Text, "cut.Parse": cut.Parse, "cut.Same": cut.Same,
		"block.Words": block.Words, "block.Digest": block.Digest, "block.Batch": block.Batch, "block.VoteWords": block.VoteWords, "block.VoteDigest": block.VoteDigest, "block.MakeVote": block.MakeVote, "block.ValidVote": block.ValidVote, "block.Gather": block.Gather, "block.ValidQC": block.ValidQC, "block.Valid": block.Valid,
		"safe.May": safe.May, "safe.Saw": safe.Saw, "safe.Vote": safe.Vote,
		"pace.Leader": pace.Leader, "pace.Words": pace.Words, "pace.Digest": pace.Digest, "pace.Make": pace.Make, "pace.Valid": pace.Valid, "pace.Best": pace.Best, "pace.New": pace.New,
		"book.New": book.New, "book.Apply": book.Apply, "book.Total": book.Total, "book.Digest": book.Digest, "exec.New": exec.New, "exec.Prefix": exec.Prefix, "exec.Fold": exec.Fold,
		"msg.Check": msg.Check, "msg.Same": msg.Same, "msg.Word": msg.Word, "memo.New": memo.New, "memo.Fold": memo.Fold,
		"node.Check": node.Check, "node.Seeds": node.Seeds, "node.New": node.New, "client.New": client.New, "world.New": world.New,
		"watch.Clean": watch.Clean, "watch.Agree": watch.Agree, "watch.Books": watch.Books, "watch.Fair": watch.Fair, "watch.Kept": watch.Kept, "watch.Once": watch.Once,
		"judge.Do": judge.Do, "judge.Day": judge.Day,
	}
}

func TestFunctionsWithAnyArguments(t *testing.T) {
	for name, f := range functions() {
		for seed := range int64(25) {
			a := newMaker(seed).call(t, name, reflect.ValueOf(f))
			b := newMaker(seed).call(t, name, reflect.ValueOf(f))
			if !reflect.DeepEqual(a, b) {
				t.Errorf("P3: %s returns %v and then %v", name, a, b)
			}
		}
	}
}

// objects are made anew, in order, for each test of their methods.
func objects(m *maker) []any {
	c, _ := clock.New(1000)
	p, _ := pace.New(3)
	x, _ := exec.New([]int64{9, 9})
	s, _ := memo.New(3, []int64{9, 9})
	cl, _ := client.New(m.s.Keys)
	n, _ := node.New(node.Conf{Keys: m.s.Keys, Who: 1, Seed: sample.Seed + 1, Lease: 2, Wait: 2, Margin: 10, Room: 3, Disk: 9, Accounts: []int64{9, 9}}, 1000)
	k, _ := key.New(3, 5, 3)
	pl, _ := pool.New(3)
	return []any{c, p, x, s, cl, n, k, pl, tree.New(), m.world()}
}

// TestMethodsWithAnyArguments calls all methods again and again, in any order.
func TestMethodsWithAnyArguments(t *testing.T) {
	for seed := range int64(12) {
		m := newMaker(seed)
		for _, x := range objects(m) {
			v := reflect.ValueOf(x)
			for range 60 {
				i := m.r.Intn(v.NumMethod())
				m.call(t, v.Type().String()+"."+v.Type().Method(i).Name, v.Method(i))
			}
		}
	}
}

func TestErrorsComeWithZeroValues(t *testing.T) {
	except := map[string]bool{"book.Apply": true, "safe.Vote": true}
	for name, f := range functions() {
		for seed := range int64(25) {
			l := newMaker(seed).call(t, name, reflect.ValueOf(f))
			if len(l) < 2 || except[name] {
				continue
			}
			if e, ok := l[len(l)-1].(api.Errno); ok && e != api.OK {
				for _, x := range l[:len(l)-1] {
					if v := reflect.ValueOf(x); !v.IsZero() && (v.Kind() != reflect.Slice || v.Len() > 0) {
						t.Errorf("P4: %s returns %v beside %v", name, x, e)
					}
				}
			}
		}
	}
}

package exec_test

import (
	"slices"
	"testing"

	"folkmoot/api"
	"folkmoot/block"
	"folkmoot/book"
	"folkmoot/cmd"
	"folkmoot/cut"
	"folkmoot/exec"
	"folkmoot/median"
	"folkmoot/stamp"
)

// cert is not signed: the log does not look at signatures.
func cert(c cmd.Cmd, at int64) median.Cert {
	return median.Cert{C: c, Stamps: []stamp.Stamp{{At: at}}}
}

func pay(client, nonce int, amount int64) cmd.Cmd {
	return cmd.Cmd{Client: client, Nonce: nonce, From: 0, To: 1, Amount: amount}
}

func over(lo, hi int64, certs ...median.Cert) block.Block {
	return block.Block{View: 1, Lo: lo, Hi: hi, Reports: []cut.Report{{Certs: certs}, {Certs: certs}}}
}

func made(t *testing.T, l ...int64) *exec.Log {
	t.Helper()
	x, e := exec.New(l)
	if e != api.OK {
		t.Fatalf("P2101: New(%v) = %v", l, e)
	}
	return x
}

func ran(t *testing.T, x *exec.Log, b block.Block, want int) {
	t.Helper()
	if n, e := x.Run(b); n != want || e != api.OK {
		t.Errorf("P2101: Run from %d to %d = %d, %v, want %d", b.Lo, b.Hi, n, e, want)
	}
}

func TestNew(t *testing.T) {
	x := made(t, 10, 20)
	if len(x.Entries()) != 0 || x.Hi() != 0 || x.Blocks() != 0 || x.Book().Has != [api.MaxNames]int64{10, 20} {
		t.Errorf("P2101: a new log: %v", x.Book())
	}
	if x, e := exec.New(make([]int64, 17)); x != nil || e != api.ErrLong {
		t.Errorf("P2101: New with 17 accounts = %v", e)
	}
	if x, e := exec.New([]int64{-1}); x != nil || e != api.ErrArg {
		t.Errorf("P2101: New with a negative account = %v", e)
	}
}

func TestRunInTheOrderOfTimes(t *testing.T) {
	x := made(t, 10, 20)
	early, late := cert(pay(4, 0, 3), 3), cert(pay(4, 1, 5), 7)
	ran(t, x, over(0, 9, late, early), 2)
	want := []exec.Entry{
		{At: 3, Cert: median.Digest(early), C: early.C},
		{At: 7, Cert: median.Digest(late), C: late.C},
	}
	if got := x.Entries(); !slices.Equal(got, want) {
		t.Errorf("P2101: Entries = %v", got)
	}
	if b := x.Book(); b.Has[0] != 2 || b.Has[1] != 28 || b.Next[4] != 2 || x.Hi() != 9 || x.Blocks() != 1 {
		t.Errorf("P2101: %v, %d, %d", b, x.Hi(), x.Blocks())
	}
}

func TestRunKeepsTheErrors(t *testing.T) {
	x := made(t, 10, 20)
	wrong := cmd.Cmd{Client: 5, From: 2, To: 2, Amount: 1}
	ran(t, x, over(0, 9, cert(pay(4, 0, 11), 1), cert(pay(4, 2, 1), 2), cert(wrong, 3), cert(pay(4, 1, 1), 4)), 4)
	var errs []api.Errno
	for _, e := range x.Entries() {
		errs = append(errs, e.Err)
	}
	if !slices.Equal(errs, []api.Errno{api.ErrFunds, api.ErrOrder, api.ErrArg, api.OK}) {
		t.Errorf("P2101: errors %v", errs)
	}
	if b := x.Book(); b.Has[0] != 9 || b.Next[4] != 2 {
		t.Errorf("P2101: Book = %v", b)
	}
}

func TestRunExecutesAnIDOnce(t *testing.T) {
	x := made(t, 10, 20)
	ran(t, x, over(0, 9, cert(pay(4, 0, 1), 1), cert(pay(4, 0, 2), 2), cert(pay(4, 1, 11), 3), cert(pay(5, 0, 1), 4)), 3)
	ran(t, x, over(9, 20, cert(pay(4, 0, 1), 11), cert(pay(4, 1, 1), 12), cert(pay(4, 2, 1), 13)), 1)
	var nonces []int
	for _, e := range x.Entries() {
		nonces = append(nonces, e.C.Nonce)
	}
	if !slices.Equal(nonces, []int{0, 1, 0, 2}) || x.Entries()[0].C.Amount != 1 {
		t.Errorf("P2101: Entries = %v", x.Entries())
	}
	if b := x.Book(); b.Has[0] != 7 || x.Hi() != 20 || x.Blocks() != 2 {
		t.Errorf("P2101: %v, %d, %d", b, x.Hi(), x.Blocks())
	}
}

func TestRunInSequence(t *testing.T) {
	x := made(t, 10, 20)
	ran(t, x, over(0, 9), 0)
	for _, lo := range []int64{0, 8, 10} {
		if n, e := x.Run(over(lo, 30, cert(pay(4, 0, 1), 25))); n != 0 || e != api.ErrOrder || x.Hi() != 9 || x.Blocks() != 1 || len(x.Entries()) != 0 {
			t.Errorf("P2101: Run from %d = %d, %v", lo, n, e)
		}
	}
	ran(t, x, over(9, 30, cert(pay(4, 0, 1), 25)), 1)
}

func TestTwin(t *testing.T) {
	x := made(t, 10, 20)
	ran(t, x, over(0, 9, cert(pay(4, 0, 1), 1)), 1)
	w := x.Twin()
	ran(t, x, over(9, 20, cert(pay(4, 1, 1), 11)), 1)
	if len(w.Entries()) != 1 || w.Hi() != 9 || w.Blocks() != 1 || w.Book().Has[0] != 9 {
		t.Error("P2101: the twin went along")
	}
	ran(t, w, over(9, 15, cert(pay(4, 0, 1), 11), cert(pay(4, 1, 2), 12), cert(pay(4, 2, 2), 13)), 2)
	if l := x.Entries(); len(l) != 2 || l[1].C.Amount != 1 || x.Hi() != 20 || x.Book().Has[0] != 8 {
		t.Error("P2101: the log went along with its twin")
	}
	x.Entries()[0].At = 99
	if x.Entries()[0].At != 1 {
		t.Error("P2: Entries shares memory with the log")
	}
}

func TestTwinsDoNotWriteIntoEachOther(t *testing.T) {
	x := made(t, 10, 20)
	ran(t, x, over(0, 9, cert(pay(4, 0, 1), 1), cert(pay(4, 1, 1), 2), cert(pay(4, 2, 1), 3)), 3)
	w := x.Twin()
	ran(t, x, over(9, 20, cert(pay(4, 3, 1), 11)), 1)
	ran(t, w, over(9, 20, cert(pay(5, 0, 2), 12)), 1)
	if a, b := x.Entries(), w.Entries(); a[3].C.Client != 4 || b[3].C.Client != 5 {
		t.Errorf("P2101: the twins have %v and %v", a[3], b[3])
	}
}

func TestPrefix(t *testing.T) {
	a, b, c := exec.Entry{At: 1}, exec.Entry{At: 2}, exec.Entry{At: 2, Err: api.ErrFunds}
	for i, x := range []struct {
		a, b []exec.Entry
		want bool
	}{
		{nil, nil, true},
		{nil, []exec.Entry{a}, true},
		{[]exec.Entry{a, b}, []exec.Entry{a}, true},
		{[]exec.Entry{a, b}, []exec.Entry{a, b}, true},
		{[]exec.Entry{a, b}, []exec.Entry{b}, false},
		{[]exec.Entry{a, b}, []exec.Entry{a, c}, false},
		{[]exec.Entry{a, b}, []exec.Entry{a, c, b}, false},
		{[]exec.Entry{{Cert: 1}}, []exec.Entry{{Cert: 2}}, false},
		{[]exec.Entry{{C: pay(1, 1, 1)}}, []exec.Entry{{C: pay(1, 1, 2)}}, false},
	} {
		if exec.Prefix(x.a, x.b) != x.want || exec.Prefix(x.b, x.a) != x.want {
			t.Errorf("P2101: case %d: Prefix is not %v", i, x.want)
		}
	}
}

func TestFold(t *testing.T) {
	x := made(t, 10, 20)
	ran(t, x, over(0, 9, cert(pay(4, 0, 11), 1), cert(pay(4, 2, 1), 2), cert(pay(4, 1, 4), 3)), 3)
	if b, e := exec.Fold([]int64{10, 20}, x.Entries()); b != x.Book() || e != api.OK {
		t.Errorf("P2101: Fold = %v, %v", b, e)
	}
	if b, e := exec.Fold([]int64{3}, nil); b.Has[0] != 3 || e != api.OK {
		t.Errorf("P2101: Fold of nothing = %v, %v", b, e)
	}
	if b, e := exec.Fold([]int64{-3}, x.Entries()); b != (book.Book{}) || e != api.ErrArg {
		t.Errorf("P2101: Fold with a wrong account = %v, %v", b, e)
	}
	lie := []exec.Entry{{C: pay(1, 0, 5), Err: api.ErrFunds}}
	if b, _ := exec.Fold([]int64{10}, lie); b.Has[1] != 5 {
		t.Error("P2101: Fold believes the errors of the entries")
	}
}

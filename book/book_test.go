package book_test

import (
	"math"
	"testing"

	"folkmoot/api"
	"folkmoot/book"
	"folkmoot/cmd"
	"folkmoot/field"
	"folkmoot/hash"
)

func made(t *testing.T, l ...int64) book.Book {
	t.Helper()
	b, e := book.New(l)
	if e != api.OK {
		t.Fatalf("P2001: New(%v) = %v", l, e)
	}
	return b
}

func TestNew(t *testing.T) {
	b := made(t, 10, 20, 30)
	if b.Has != [api.MaxNames]int64{10, 20, 30} || b.Next != [api.MaxNames]int{} || book.Total(b) != 60 {
		t.Errorf("P2001: New = %v", b)
	}
	if b := made(t); b != (book.Book{}) {
		t.Errorf("P2001: New of nothing = %v", b)
	}
	full := make([]int64, api.MaxNames)
	full[15] = api.MaxAmount
	if b := made(t, full...); b.Has[15] != api.MaxAmount {
		t.Errorf("P2001: New = %v", b)
	}
	for i, c := range []struct {
		l    []int64
		want api.Errno
	}{
		{make([]int64, 17), api.ErrLong},
		{append(make([]int64, 16), -1), api.ErrLong},
		{[]int64{1, -1}, api.ErrArg},
		{[]int64{api.MaxAmount + 1}, api.ErrArg},
		{[]int64{5, math.MinInt64}, api.ErrArg},
	} {
		if b, e := book.New(c.l); b != (book.Book{}) || e != c.want {
			t.Errorf("P2001: case %d: %v, %v", i, b, e)
		}
	}
}

func TestApply(t *testing.T) {
	b := made(t, 10, 20)
	pay := func(nonce, from, to int, amount int64) cmd.Cmd {
		return cmd.Cmd{Client: 3, Nonce: nonce, From: from, To: to, Amount: amount}
	}
	for i, c := range []struct {
		c          cmd.Cmd
		want       api.Errno
		zero, one  int64
		next       int
		wantOthers int64
	}{
		{pay(0, 0, 1, 4), api.OK, 6, 24, 1, 0},
		{pay(0, 0, 1, 4), api.ErrOrder, 6, 24, 1, 0},
		{pay(2, 0, 1, 4), api.ErrOrder, 6, 24, 1, 0},
		{pay(2, 0, 1, 99), api.ErrOrder, 6, 24, 1, 0},
		{pay(1, 0, 1, 7), api.ErrFunds, 6, 24, 2, 0},
		{pay(1, 0, 1, 1), api.ErrOrder, 6, 24, 2, 0},
		{pay(2, 0, 0, 1), api.ErrArg, 6, 24, 2, 0},
		{pay(2, 0, 16, 1), api.ErrArg, 6, 24, 2, 0},
		{pay(9, 0, 1, 0), api.ErrArg, 6, 24, 2, 0},
		{pay(2, 1, 0, 24), api.OK, 30, 0, 3, 0},
		{pay(3, 1, 0, 1), api.ErrFunds, 30, 0, 4, 0},
		{pay(4, 0, 7, 12), api.OK, 18, 0, 5, 12},
	} {
		before := b
		got, e := book.Apply(b, c.c)
		if e != c.want || got.Has[0] != c.zero || got.Has[1] != c.one || got.Next[3] != c.next || got.Has[7] != c.wantOthers {
			t.Fatalf("P2001: case %d: %v, %v", i, got, e)
		}
		if b != before {
			t.Errorf("P2: case %d: the argument was changed", i)
		}
		if book.Total(got) != 30 {
			t.Errorf("P2002: case %d: the Total is %d", i, book.Total(got))
		}
		b = got
	}
	if b.Next != [api.MaxNames]int{3: 5} {
		t.Errorf("P2001: Next = %v", b.Next)
	}
}

func TestApplyToTheLimit(t *testing.T) {
	b := made(t, api.MaxAmount, api.MaxAmount)
	got, e := book.Apply(b, cmd.Cmd{From: 0, To: 1, Amount: api.MaxAmount})
	if e != api.OK || got.Has[0] != 0 || got.Has[1] != 2*api.MaxAmount || book.Total(got) != book.Total(b) {
		t.Errorf("P2002: %v, %v", got, e)
	}
}

func TestTotal(t *testing.T) {
	b := book.Book{}
	for i := range b.Has {
		b.Has[i] = 1 << i
	}
	if got := book.Total(b); got != 1<<16-1 {
		t.Errorf("P2001: Total = %d", got)
	}
}

func TestDigest(t *testing.T) {
	b := made(t, 10, 20)
	b.Next[2] = 7
	want := hash.Of("book", "|10,20,0,0,0,0,0,0,0,0,0,0,0,0,0,0|0,0,7,0,0,0,0,0,0,0,0,0,0,0,0,0")
	if got := book.Digest(b); got != want {
		t.Errorf("P2001: Digest = %x, want %x", got, want)
	}
	nums := field.Nums(make([]int64, 16))
	if got := book.Digest(book.Book{}); got != hash.Of("book", field.Join([]string{nums, nums})) {
		t.Errorf("P2001: Digest of the empty book = %x", got)
	}
}

package bourse_test

import (
	"bytes"
	"slices"
	"testing"

	"bourse/api"
	"bourse/bourse"
)

// pack writes numbers, each in as many bytes as its digit says.
func pack(widths string, numbers ...int) []byte {
	var out []byte
	for k, w := range widths {
		for shift := 8 * (int(w-'0') - 1); shift >= 0; shift -= 8 {
			out = append(out, byte(numbers[k]>>shift))
		}
	}
	return out
}

// What comes.

func enter(token int, side byte, stock, price, shares int, kind byte) []byte {
	return pack("1411221", 'E', token, int(side), stock, price, shares, int(kind))
}

func replace(token, newToken, price, shares int) []byte {
	return pack("14422", 'R', token, newToken, price, shares)
}

func cancel(token, shares int) []byte { return pack("142", 'C', token, shares) }

// What goes out, at a time.

type at int

func (t at) opened() []byte { return pack("16", 'O', int(t)) }

func (t at) closed() []byte { return pack("16", 'Z', int(t)) }

func (t at) accepted(token int, side byte, stock, price, shares int, kind byte, reference int) []byte {
	return pack("164112214", 'A', int(t), token, int(side), stock, price, shares, int(kind), reference)
}

func (t at) rejected(token int, reason byte) []byte {
	return pack("1641", 'J', int(t), token, int(reason))
}

func (t at) replaced(newToken, price, shares, reference, token int) []byte {
	return pack("1642244", 'U', int(t), newToken, price, shares, reference, token)
}

func (t at) canceled(token, shares int, reason byte) []byte {
	return pack("16421", 'X', int(t), token, shares, int(reason))
}

func (t at) filled(token, shares, price, match int) []byte {
	return pack("164224", 'F', int(t), token, shares, price, match)
}

func (t at) rests(reference int, side byte, stock, shares, price int) []byte {
	return pack("1641122", 'a', int(t), reference, int(side), stock, shares, price)
}

func (t at) executed(reference, shares, match int) []byte {
	return pack("16424", 'e', int(t), reference, shares, match)
}

func (t at) lessened(reference, shares int) []byte {
	return pack("1642", 'x', int(t), reference, shares)
}

func (t at) gone(reference int) []byte { return pack("164", 'd', int(t), reference) }

func (t at) swapped(reference, newReference, shares, price int) []byte {
	return pack("164422", 'u', int(t), reference, newReference, shares, price)
}

func list(messages ...[]byte) []byte { return slices.Concat(messages...) }

// start makes a bourse of which the opening is told already.
func start(t *testing.T, stocks, levels, pool int) *bourse.Bourse {
	t.Helper()
	b, e := bourse.New(stocks, levels, pool)
	if b == nil || e != api.OK {
		t.Fatalf("New(%d, %d, %d): %v, %d", stocks, levels, pool, b, e)
	}
	wantAnswers(t, "New", b, at(0).opened())
	wantTape(t, "New", b, nil)
	return b
}

func wantBytes(t *testing.T, what string, got, want []byte) {
	t.Helper()
	if !bytes.Equal(got, want) {
		t.Errorf("%s:\n got % x\nwant % x", what, got, want)
	}
}

func wantAnswers(t *testing.T, what string, b *bourse.Bourse, want []byte) {
	t.Helper()
	wantBytes(t, what+": answers", b.Answers(), want)
}

func wantTape(t *testing.T, what string, b *bourse.Bourse, want []byte) {
	t.Helper()
	wantBytes(t, what+": tape", b.Tape(), want)
}

func wantOut(t *testing.T, what string, b *bourse.Bourse, answers, tape []byte) {
	t.Helper()
	wantAnswers(t, what, b, answers)
	wantTape(t, what, b, tape)
}

func wantBook(t *testing.T, what string, b *bourse.Bourse, stock int, want ...api.Order) {
	t.Helper()
	if got, e := b.Book(stock); e != api.OK || !slices.Equal(got, want) {
		t.Errorf("%s: book %d:\n got %+v, %d\nwant %+v", what, stock, got, e, want)
	}
}

// wantTokens looks at the order of a book alone.
func wantTokens(t *testing.T, what string, b *bourse.Bourse, stock int, want ...int) {
	t.Helper()
	l, e := b.Book(stock)
	var got []int
	for _, o := range l {
		got = append(got, o.Token)
	}
	if e != api.OK || !slices.Equal(got, want) {
		t.Errorf("%s: book %d: tokens %v, %d, want %v", what, stock, got, e, want)
	}
}

func wantLook(t *testing.T, what string, b *bourse.Bourse, want api.View) {
	t.Helper()
	if got := b.Look(); got != want {
		t.Errorf("%s: %+v, want %+v", what, got, want)
	}
}

// drain forgets what went out so far.
func drain(b *bourse.Bourse) {
	b.Answers()
	b.Tape()
}

package bourse

import (
	"bourse/field"
	"bourse/ladder"
)

const (
	timeBytes = 6
	timeBits  = 8 * timeBytes
)

// The letters of the tape.
const (
	letterRests    = 'a'
	letterExecuted = 'e'
	letterLessened = 'x'
	letterGone     = 'd'
	letterSwapped  = 'u'
)

// The reasons for which an order is rejected or canceled.
const (
	reasonToken  = 'D'
	reasonSide   = 'B'
	reasonStock  = 'S'
	reasonPrice  = 'P'
	reasonShares = 'Q'
	reasonKind   = 'K'
	reasonFull   = 'F'

	reasonOnce = 'I'
	reasonUser = 'U'
)

func (b *Bourse) begin(to []byte, letter byte) []byte {
	return field.PutLow(field.Put(to, letter), b.time, timeBytes)
}

func (b *Bourse) tellOpened() { b.answers = b.begin(b.answers, 'O') }

func (b *Bourse) tellClosed() { b.answers = b.begin(b.answers, 'Z') }

func (b *Bourse) tellAccepted(o ladder.Order, kind byte) {
	a := b.begin(b.answers, 'A')
	a = field.Put(a, o.Token)
	a = field.Put(a, o.Side)
	a = field.Put(a, o.Stock)
	a = field.Put(a, o.Price)
	a = field.Put(a, o.Shares)
	a = field.Put(a, kind)
	b.answers = field.Put(a, o.Reference)
}

func (b *Bourse) tellRejected(token uint32, reason byte) {
	a := b.begin(b.answers, 'J')
	a = field.Put(a, token)
	b.answers = field.Put(a, reason)
}

func (b *Bourse) tellReplaced(o ladder.Order, oldToken uint32) {
	a := b.begin(b.answers, 'U')
	a = field.Put(a, o.Token)
	a = field.Put(a, o.Price)
	a = field.Put(a, o.Shares)
	a = field.Put(a, o.Reference)
	b.answers = field.Put(a, oldToken)
}

func (b *Bourse) tellCanceled(token uint32, shares uint16, reason byte) {
	a := b.begin(b.answers, 'X')
	a = field.Put(a, token)
	a = field.Put(a, shares)
	b.answers = field.Put(a, reason)
}

func (b *Bourse) tellFilled(token uint32, shares, price uint16) {
	a := b.begin(b.answers, 'F')
	a = field.Put(a, token)
	a = field.Put(a, shares)
	a = field.Put(a, price)
	b.answers = field.Put(a, b.matches)
}

func (b *Bourse) tapeRests(o ladder.Order) {
	t := b.begin(b.tape, letterRests)
	t = field.Put(t, o.Reference)
	t = field.Put(t, o.Side)
	t = field.Put(t, o.Stock)
	t = field.Put(t, o.Shares)
	b.tape = field.Put(t, o.Price)
}

func (b *Bourse) tapeExecuted(reference uint32, shares uint16) {
	t := b.begin(b.tape, letterExecuted)
	t = field.Put(t, reference)
	t = field.Put(t, shares)
	b.tape = field.Put(t, b.matches)
}

func (b *Bourse) tapeLessened(reference uint32, shares uint16) {
	t := b.begin(b.tape, letterLessened)
	t = field.Put(t, reference)
	b.tape = field.Put(t, shares)
}

func (b *Bourse) tapeGone(reference uint32) {
	t := b.begin(b.tape, letterGone)
	b.tape = field.Put(t, reference)
}

func (b *Bourse) tapeSwapped(oldReference uint32, o ladder.Order) {
	t := b.begin(b.tape, letterSwapped)
	t = field.Put(t, oldReference)
	t = field.Put(t, o.Reference)
	t = field.Put(t, o.Shares)
	b.tape = field.Put(t, o.Price)
}

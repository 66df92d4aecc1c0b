package bourse

import (
	"bourse/api"
	"bourse/ladder"
)

func (b *Bourse) do(message []byte) {
	fields := message[1:]
	switch message[0] {
	case letterEnter:
		b.enter(readEnter(fields))
	case letterReplace:
		// taken, so that what stands behind it is read from its beginning; replacing is not built yet
	case letterCancel:
		b.cancel(readCancel(fields))
	default:
		b.shut()
	}
}

func (b *Bourse) shut() {
	b.open = false
	b.tellClosed()
}

func (b *Bourse) enter(m enterMessage) {
	if reason, rejected := b.whyNot(m); rejected {
		b.tellRejected(m.token, reason)
		return
	}
	o := b.meet(b.accept(m))
	switch {
	case o.Shares == 0:
	case m.kind == kindDay:
		b.rest(o)
	default:
		b.tellCanceled(o.Token, o.Shares, reasonOnce)
	}
}

func (b *Bourse) whyNot(m enterMessage) (reason byte, rejected bool) {
	_, used := b.places[m.token]
	switch {
	case used:
		return reasonToken, true
	case m.side != ladder.Buy && m.side != ladder.Sell:
		return reasonSide, true
	case int(m.stock) >= b.books.Stocks():
		return reasonStock, true
	case !within(int(m.price), 1, b.books.Levels()):
		return reasonPrice, true
	case !within(int(m.shares), 1, api.MaxShares):
		return reasonShares, true
	case m.kind != kindDay && m.kind != kindOnce:
		return reasonKind, true
	case m.kind == kindDay && b.books.Full():
		return reasonFull, true
	}
	return 0, false
}

func (b *Bourse) accept(m enterMessage) ladder.Order {
	b.references++
	b.places[m.token] = ladder.Nowhere
	o := ladder.Order{Reference: b.references, Token: m.token, Side: m.side, Stock: m.stock, Price: m.price, Shares: m.shares}
	b.tellAccepted(o, m.kind)
	return o
}

func (b *Bourse) rest(o ladder.Order) {
	b.places[o.Token] = b.books.Rest(o)
	b.tapeRests(o)
}

// meet answers the order with the shares that are left of it.
func (b *Bourse) meet(o ladder.Order) ladder.Order {
	for o.Shares > 0 {
		place := b.books.Meets(o)
		if place == ladder.Nowhere {
			break
		}
		o.Shares -= b.execute(o, place)
	}
	return o
}

func (b *Bourse) execute(o ladder.Order, place int) uint16 {
	first := b.books.Order(place)
	shares := min(o.Shares, first.Shares)
	b.matches++
	b.tellFilled(first.Token, shares, first.Price)
	b.tellFilled(o.Token, shares, first.Price)
	b.tapeExecuted(first.Reference, shares)
	b.reduce(place, shares)
	return shares
}

func (b *Bourse) cancel(m cancelMessage) {
	place := b.places[m.token]
	if place == ladder.Nowhere {
		return
	}
	o := b.books.Order(place)
	if o.Shares <= m.shares {
		return
	}
	gone := o.Shares - m.shares
	b.tellCanceled(o.Token, gone, reasonUser)
	if m.shares == 0 {
		b.tapeGone(o.Reference)
	} else {
		b.tapeCanceled(o.Reference, gone)
	}
	b.reduce(place, gone)
}

// reduce keeps the places true: a token whose order is gone is still known, but nowhere.
func (b *Bourse) reduce(place int, shares uint16) {
	token := b.books.Order(place).Token
	if b.books.Reduce(place, shares) == 0 {
		b.places[token] = ladder.Nowhere
	}
}

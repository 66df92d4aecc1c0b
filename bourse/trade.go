package bourse

import (
	"bourse/api"
	"bourse/ladder"
)

func (b *Bourse) do(message []byte) {
	fields := message[1:]
	switch message[0] {
	case letterEnter:
		b.enter(readEnter(fields))
	case letterReplace:
		b.replace(readReplace(fields))
	case letterCancel:
		b.cancel(readCancel(fields))
	default:
		b.shut()
	}
}

func (b *Bourse) shut() {
	b.open = false
	b.tellClosed()
}

func (b *Bourse) enter(m enterMessage) {
	if reason, rejected := b.whyNotEnter(m); rejected {
		b.tellRejected(m.token, reason)
		return
	}
	o := b.meet(b.accept(m))
	switch {
	case o.Shares == 0:
	case m.kind == kindDay:
		b.rest(o)
	default:
		b.tellCanceled(o.Token, o.Shares, reasonOnce)
	}
}

func (b *Bourse) whyNotEnter(m enterMessage) (reason byte, rejected bool) {
	switch {
	case b.used(m.token):
		return reasonToken, true
	case !sideMayBe(m.side):
		return reasonSide, true
	case int(m.stock) >= b.books.Stocks():
		return reasonStock, true
	case !b.onLadder(m.price):
		return reasonPrice, true
	case !sharesMayBe(m.shares):
		return reasonShares, true
	case m.kind != kindDay && m.kind != kindOnce:
		return reasonKind, true
	case m.kind == kindDay && b.books.Full():
		return reasonFull, true
	}
	return 0, false
}

func (b *Bourse) used(token uint32) bool {
	_, used := b.places[token]
	return used
}

func sideMayBe(side byte) bool { return side == ladder.Buy || side == ladder.Sell }

func (b *Bourse) onLadder(price uint16) bool { return within(int(price), 1, b.books.Levels()) }

func sharesMayBe(shares uint16) bool { return within(int(shares), 1, api.MaxShares) }

func (b *Bourse) accept(m enterMessage) ladder.Order {
	o := ladder.Order{Reference: b.register(m.token), Token: m.token, Side: m.side, Stock: m.stock, Price: m.price, Shares: m.shares}
	b.tellAccepted(o, m.kind)
	return o
}

// register makes a token known, and answers the reference of its order.
func (b *Bourse) register(token uint32) uint32 {
	b.references++
	b.places[token] = ladder.Nowhere
	return b.references
}

func (b *Bourse) rest(o ladder.Order) {
	b.places[o.Token] = b.books.Rest(o)
	b.tapeRests(o)
}

// meet answers the order with the shares that are left of it.
func (b *Bourse) meet(o ladder.Order) ladder.Order {
	for o.Shares > 0 {
		place := b.books.Meets(o)
		if place == ladder.Nowhere {
			break
		}
		o.Shares -= b.execute(o, place)
	}
	return o
}

func (b *Bourse) execute(o ladder.Order, place int) uint16 {
	first := b.books.Order(place)
	shares := min(o.Shares, first.Shares)
	b.matches++
	b.tellFilled(first.Token, shares, first.Price)
	b.tellFilled(o.Token, shares, first.Price)
	b.tapeExecuted(first.Reference, shares)
	b.reduce(place, shares)
	return shares
}

func (b *Bourse) cancel(m cancelMessage) {
	place := b.places[m.token]
	if place == ladder.Nowhere {
		return
	}
	o := b.books.Order(place)
	if o.Shares <= m.shares {
		return
	}
	gone := o.Shares - m.shares
	b.tellCanceled(o.Token, gone, reasonUser)
	if m.shares == 0 {
		b.tapeGone(o.Reference)
	} else {
		b.tapeLessened(o.Reference, gone)
	}
	b.reduce(place, gone)
}

// reduce keeps the places true: a token whose order is gone is still known, but nowhere.
func (b *Bourse) reduce(place int, shares uint16) {
	token := b.books.Order(place).Token
	if b.books.Reduce(place, shares) == 0 {
		b.places[token] = ladder.Nowhere
	}
}

package bourse

import "bourse/ladder"

func (b *Bourse) replace(m replaceMessage) {
	place := b.places[m.token]
	if place == ladder.Nowhere {
		return
	}
	if reason, rejected := b.whyNotReplace(m); rejected {
		b.tellRejected(m.newToken, reason)
		return
	}
	old := b.books.Order(place)
	o := b.acceptReplacement(old, m)
	if b.books.Meets(o) == ladder.Nowhere {
		b.swap(place, old, o)
		return
	}
	b.tapeGone(old.Reference)
	b.reduce(place, old.Shares)
	if o = b.meet(o); o.Shares > 0 {
		b.rest(o)
	}
}

func (b *Bourse) whyNotReplace(m replaceMessage) (reason byte, rejected bool) {
	switch {
	case b.used(m.newToken):
		return reasonToken, true
	case !b.onLadder(m.price):
		return reasonPrice, true
	case !sharesMayBe(m.shares):
		return reasonShares, true
	}
	return 0, false
}

func (b *Bourse) acceptReplacement(old ladder.Order, m replaceMessage) ladder.Order {
	o := ladder.Order{Reference: b.register(m.newToken), Token: m.newToken, Side: old.Side, Stock: old.Stock, Price: m.price, Shares: m.shares}
	b.tellReplaced(o, old.Token)
	return o
}

func (b *Bourse) swap(place int, old, o ladder.Order) {
	b.books.Replace(place, o)
	b.places[old.Token] = ladder.Nowhere
	b.places[o.Token] = place
	b.tapeSwapped(old.Reference, o)
}

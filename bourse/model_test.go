package bourse_test

import (
	"math/rand/v2"
	"slices"
	"testing"

	"bourse/api"
	"bourse/bourse"
)

// model does the same as a bourse in the plainest way: one list of all orders that rest, as they came.
type model struct {
	stocks, levels, pool      int
	time, references, matches int
	accepted                  []int
	resting                   []api.Order
	answers, tape             []byte
}

func (m *model) answer(bytes []byte) { m.answers = append(m.answers, bytes...) }

func (m *model) record(bytes []byte) { m.tape = append(m.tape, bytes...) }

func (m *model) reason(token int, side byte, stock, price, shares int, kind byte) byte {
	for _, c := range []struct {
		wrong  bool
		reason byte
	}{
		{slices.Contains(m.accepted, token), 'D'},
		{side != 'B' && side != 'S', 'B'},
		{stock >= m.stocks, 'S'},
		{price < 1 || price > m.levels, 'P'},
		{shares < 1 || shares > 9999, 'Q'},
		{kind != 'D' && kind != 'I', 'K'},
		{kind == 'D' && len(m.resting) == m.pool, 'F'},
	} {
		if c.wrong {
			return c.reason
		}
	}
	return 0
}

func (m *model) enter(token int, side byte, stock, price, shares int, kind byte) {
	now := at(m.time)
	if r := m.reason(token, side, stock, price, shares, kind); r != 0 {
		m.answer(now.rejected(token, r))
		return
	}
	m.references++
	o := api.Order{Reference: m.references, Token: token, Side: side, Stock: stock, Price: price, Shares: shares}
	m.accepted = append(m.accepted, token)
	m.answer(now.accepted(token, side, stock, price, shares, kind, o.Reference))
	o = m.meet(o)
	if o.Shares > 0 && kind == 'D' {
		m.rest(o)
	} else if o.Shares > 0 {
		m.answer(now.canceled(token, o.Shares, 'I'))
	}
}

func (m *model) meet(o api.Order) api.Order {
	now := at(m.time)
	for k := m.first(o); o.Shares > 0 && k >= 0; k = m.first(o) {
		r := &m.resting[k]
		n := min(o.Shares, r.Shares)
		m.matches++
		m.answer(now.filled(r.Token, n, r.Price, m.matches))
		m.answer(now.filled(o.Token, n, r.Price, m.matches))
		m.record(now.executed(r.Reference, n, m.matches))
		o.Shares -= n
		m.lessen(k, n)
	}
	return o
}

func (m *model) rest(o api.Order) {
	m.resting = append(m.resting, o)
	m.record(at(m.time).rests(o.Reference, o.Side, o.Stock, o.Shares, o.Price))
}

func (m *model) replace(token, newToken, price, shares int) {
	now := at(m.time)
	k := m.find(token)
	if k < 0 {
		return
	}
	old := m.resting[k]
	if r := m.reason(newToken, old.Side, old.Stock, price, shares, 'I'); r != 0 {
		m.answer(now.rejected(newToken, r))
		return
	}
	m.references++
	m.accepted = append(m.accepted, newToken)
	o := api.Order{Reference: m.references, Token: newToken, Side: old.Side, Stock: old.Stock, Price: price, Shares: shares}
	m.answer(now.replaced(newToken, price, shares, o.Reference, token))
	if m.first(o) >= 0 {
		m.record(now.gone(old.Reference))
		m.lessen(k, old.Shares)
		if o = m.meet(o); o.Shares > 0 {
			m.rest(o)
		}
		return
	}
	m.record(now.swapped(old.Reference, o.Reference, shares, price))
	if price == old.Price && shares <= old.Shares {
		m.resting[k] = o
	} else {
		m.lessen(k, old.Shares)
		m.resting = append(m.resting, o)
	}
}

func (m *model) find(token int) int {
	return slices.IndexFunc(m.resting, func(o api.Order) bool { return o.Token == token })
}

// first finds the order that o meets: -1, if none.
func (m *model) first(o api.Order) int {
	best := -1
	for k, r := range m.resting {
		if r.Stock != o.Stock || r.Side == o.Side || !crosses(o, r.Price) {
			continue
		}
		if best < 0 || ahead(r, m.resting[best]) {
			best = k
		}
	}
	return best
}

func crosses(o api.Order, price int) bool {
	return o.Side == 'B' && price <= o.Price || o.Side == 'S' && price >= o.Price
}

// ahead: the price of r is better than the other one's, for who meets r.
func ahead(r, other api.Order) bool {
	if r.Side == 'B' {
		return r.Price > other.Price
	}
	return r.Price < other.Price
}

func (m *model) lessen(k, shares int) {
	m.resting[k].Shares -= shares
	if m.resting[k].Shares == 0 {
		m.resting = slices.Delete(m.resting, k, k+1)
	}
}

func (m *model) cancel(token, shares int) {
	k := m.find(token)
	if k < 0 || m.resting[k].Shares <= shares {
		return
	}
	now, gone := at(m.time), m.resting[k].Shares-shares
	m.answer(now.canceled(token, gone, 'U'))
	if shares == 0 {
		m.record(now.gone(m.resting[k].Reference))
	} else {
		m.record(now.lessened(m.resting[k].Reference, gone))
	}
	m.lessen(k, gone)
}

func (m *model) book(stock int) []api.Order {
	var out []api.Order
	for _, side := range []byte{'B', 'S'} {
		var half []api.Order
		for _, o := range m.resting {
			if o.Stock == stock && o.Side == side {
				half = append(half, o)
			}
		}
		slices.SortStableFunc(half, func(a, b api.Order) int {
			if side == 'B' {
				return b.Price - a.Price
			}
			return a.Price - b.Price
		})
		out = append(out, half...)
	}
	return out
}

// pick is mostly a number of 1 to most, now and then one that may not be.
func pick(r *rand.Rand, most, wrong int) int {
	if r.IntN(60) == 0 {
		return []int{0, most + 1, wrong}[r.IntN(3)]
	}
	return 1 + r.IntN(most)
}

// pickToken is mostly a new one, now and then one that was accepted.
func (m *model) pickToken(r *rand.Rand) int {
	if len(m.accepted) > 0 && r.IntN(8) == 0 {
		return m.accepted[r.IntN(len(m.accepted))]
	}
	return r.IntN(1 << 32)
}

// pickResting is mostly an order that rests, now and then a token that need not.
func (m *model) pickResting(r *rand.Rand) api.Order {
	if len(m.resting) > 0 && r.IntN(5) > 0 {
		return m.resting[r.IntN(len(m.resting))]
	}
	return api.Order{Token: m.pickToken(r), Price: 1, Shares: 1}
}

func (m *model) nextCancel(r *rand.Rand) []byte {
	o := m.pickResting(r)
	shares := r.IntN(120)
	if r.IntN(2) == 0 {
		shares = 0
	}
	m.cancel(o.Token, shares)
	return cancel(o.Token, shares)
}

// nextReplace keeps the price, and the shares or about so many, often enough.
func (m *model) nextReplace(r *rand.Rand) []byte {
	o := m.pickResting(r)
	newToken, price, shares := m.pickToken(r), o.Price, o.Shares-1+r.IntN(3)
	if r.IntN(2) == 0 {
		price = pick(r, m.levels, 65535)
	}
	if r.IntN(2) == 0 {
		shares = pick(r, 150, 10000)
	}
	m.replace(o.Token, newToken, price, shares)
	return replace(o.Token, newToken, price, shares)
}

// next does a message in the model, and answers its bytes.
func (m *model) next(r *rand.Rand) []byte {
	switch r.IntN(10) {
	case 0:
		return m.nextCancel(r)
	case 1, 2, 3:
		return m.nextReplace(r)
	}
	token := m.pickToken(r)
	side, kind := "BBBBBBSSSSSSx"[r.IntN(13)], "DDDDDDDDDIIIx"[r.IntN(13)]
	stock, price, shares := pick(r, m.stocks, 255)-1, pick(r, m.levels, 65535), pick(r, 150, 10000)
	stock &= 255
	m.enter(token, side, stock, price, shares, kind)
	return enter(token, side, stock, price, shares, kind)
}

func TestAgainstModel(t *testing.T) {
	for seed := range uint64(60) {
		r := rand.New(rand.NewPCG(seed, 1))
		stocks, levels, pool := 1+r.IntN(3), []int{1, 2, 5, 10, 64}[r.IntN(5)], []int{1, 3, 10, 64}[r.IntN(4)]
		b := start(t, stocks, levels, pool)
		m := &model{stocks: stocks, levels: levels, pool: pool}
		for range 400 {
			if n := r.IntN(1000); r.IntN(5) == 0 {
				b.Tick(n)
				m.time += n
			}
			m.answers, m.tape = nil, nil
			b.Feed(m.next(r))
			wantOut(t, "as the model", b, m.answers, m.tape)
			wantLook(t, "as the model", b, api.View{Time: m.time, Resting: len(m.resting), Open: true})
			for stock := range stocks {
				wantBook(t, "as the model", b, stock, m.book(stock)...)
				notCrossed(t, b, stock)
			}
			if t.Failed() {
				t.Fatalf("seed %d", seed)
			}
		}
	}
}

// stream is many messages, in one list.
func stream(seed uint64, stocks, levels, pool, count int) []byte {
	r := rand.New(rand.NewPCG(seed, 2))
	m := &model{stocks: stocks, levels: levels, pool: pool}
	var all []byte
	for range count {
		all = append(all, m.next(r)...)
	}
	return all
}

func TestCutsDoNotMatter(t *testing.T) {
	for seed := range uint64(20) {
		r := rand.New(rand.NewPCG(seed, 3))
		all := stream(seed, 2, 5, 10, 300)
		if seed%2 == 0 {
			all = slices.Insert(all, r.IntN(len(all)), '?') // most likely it shifts fields; sooner or later it closes
		}
		whole, cut, single := start(t, 2, 5, 10), start(t, 2, 5, 10), start(t, 2, 5, 10)
		whole.Feed(all)
		for k := range all {
			single.Feed(all[k : k+1])
		}
		for rest := all; len(rest) > 0; {
			n := r.IntN(min(len(rest), 40) + 1)
			cut.Feed(rest[:n])
			rest = rest[n:]
		}
		answers, tape := whole.Answers(), whole.Tape()
		for _, b := range []*bourse.Bourse{cut, single} {
			wantOut(t, "P10: cut", b, answers, tape)
			wantLook(t, "P10: cut", b, whole.Look())
			for stock := range 2 {
				want, _ := whole.Book(stock)
				wantBook(t, "P10: cut", b, stock, want...)
			}
		}
	}
}

// TestEveryCutInTwo goes through all places at which a short stream can be cut.
func TestEveryCutInTwo(t *testing.T) {
	all := list(list(session()...), []byte{'!'}, cancel(1, 0))
	whole := start(t, 2, 10, 9)
	whole.Feed(all)
	answers, tape := whole.Answers(), whole.Tape()
	for k := range len(all) + 1 {
		b := start(t, 2, 10, 9)
		b.Feed(all[:k])
		b.Feed(all[k:])
		wantOut(t, "P10: cut in two", b, answers, tape)
	}
}

// TestAnyBytes feeds noise that begins like messages: nothing panics, and bounds hold (P1).
func TestAnyBytes(t *testing.T) {
	for seed := range uint64(300) {
		r := rand.New(rand.NewPCG(seed, 4))
		b := start(t, 8, 64, 64)
		for range 50 {
			noise := []byte{"ERC"[r.IntN(3)]}
			for range r.IntN(14) {
				noise = append(noise, "\x00\x00\x00\x01\x05\x27BSDIERC\xff"[r.IntN(14)])
			}
			b.Feed(noise)
		}
		v := b.Look()
		if v.Resting > 64 || v.Partial >= api.ReplaceBytes || !v.Open && v.Partial != 0 {
			t.Errorf("P1: %+v", v)
		}
	}
}

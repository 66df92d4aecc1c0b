// Package bourse: orders that meet on a ladder of prices, and a tape of it all: see DOC.md.
package bourse

import (
	"bourse/api"
	"bourse/ladder"
)

// Bourse takes orders.
type Bourse struct {
	open       bool
	time       uint64
	inbox      inbox
	references uint32
	matches    uint32
	places     map[uint32]int // of each token that was accepted: where its order rests, or Nowhere
	books      *ladder.Books
	answers    []byte
	tape       []byte
}

// New makes a bourse (P3).
func New(stocks int, levels int, pool int) (*Bourse, api.Errno) {
	if !within(stocks, 1, api.MaxStocks) || !within(levels, 1, api.MaxLevels) || !within(pool, 1, api.MaxPool) {
		return nil, api.ErrArg
	}
	b := &Bourse{open: true, places: map[uint32]int{}, books: ladder.New(stocks, levels, pool)}
	b.tellOpened()
	return b, api.OK
}

// Feed lets bytes come (P4).
func (b *Bourse) Feed(bytes []byte) {
next:
	if !b.open {
		return
	}
	behind, whole := b.inbox.gather(bytes)
	if !whole {
		return
	}
	b.do(b.inbox.message())
	bytes = behind
	goto next
}

// Tick lets time pass (P4).
func (b *Bourse) Tick(n int) api.Errno {
	if !within(n, 0, api.MaxTick) {
		return api.ErrArg
	}
	b.time = (b.time + uint64(n)) % (1 << timeBits)
	return api.OK
}

// Answers tells what went back (P5).
func (b *Bourse) Answers() []byte { return handOver(&b.answers) }

// Tape tells what went on the tape (P5).
func (b *Bourse) Tape() []byte { return handOver(&b.tape) }

// Book tells what rests (P5).
func (b *Bourse) Book(stock int) ([]api.Order, api.Errno) {
	if !within(stock, 0, b.books.Stocks()-1) {
		return nil, api.ErrArg
	}
	var list []api.Order
	for _, o := range b.books.List(stock) {
		list = append(list, plain(o))
	}
	return list, api.OK
}

// Look tells how the bourse is (P5).
func (b *Bourse) Look() api.View {
	return api.View{Time: int(b.time), Resting: b.books.Resting(), Open: b.open, Partial: b.inbox.have}
}

func within(n, least, most int) bool { return least <= n && n <= most }

// handOver gives the memory away whole, and keeps no hold on it: the caller may write into it.
func handOver(from *[]byte) []byte {
	told := *from
	*from = nil
	return told
}

func plain(o ladder.Order) api.Order {
	return api.Order{
		Reference: int(o.Reference),
		Token:     int(o.Token),
		Side:      o.Side,
		Stock:     int(o.Stock),
		Price:     int(o.Price),
		Shares:    int(o.Shares),
	}
}

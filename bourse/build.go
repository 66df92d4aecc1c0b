package bourse

import (
	"cmp"
	"slices"

	"bourse/api"
	"bourse/field"
	"bourse/ladder"
)

// rebuilt is the orders of a tape, as they came. One that is gone stays in the list, with no
// shares: so the places of the others hold, however long the tape is.
type rebuilt struct {
	orders []ladder.Order
	places map[uint32]int // of each reference that rests: where its order is in the list
}

// Build builds books out of a tape (P6).
func Build(tape []byte) ([]api.Order, int, api.Errno) {
	r := rebuilt{places: map[uint32]int{}}
	for behind := tape; len(behind) > 0; {
		letter := behind[0]
		size := tapeBytes(letter)
		if size == 0 || size > len(behind) || !r.follow(letter, behind[1+timeBytes:size]) {
			return nil, len(tape) - len(behind), api.ErrTape
		}
		behind = behind[size:]
	}
	return r.list(), 0, api.OK
}

// tapeBytes is how many bytes a message of the tape has, with its letter and its time: 0, if there is no such letter.
func tapeBytes(letter byte) int {
	const begin = 1 + timeBytes
	switch letter {
	case letterRests:
		return begin + 4 + 1 + 1 + 2 + 2
	case letterExecuted:
		return begin + 4 + 2 + 4
	case letterLessened:
		return begin + 4 + 2
	case letterGone:
		return begin + 4
	case letterSwapped:
		return begin + 4 + 4 + 2 + 2
	}
	return 0
}

// follow does what a message tells, and answers false where the message may not be.
func (r *rebuilt) follow(letter byte, fields []byte) bool {
	switch letter {
	case letterRests:
		return r.rests(fields)
	case letterExecuted:
		return r.executed(fields)
	case letterLessened:
		return r.lessened(fields)
	case letterGone:
		return r.gone(fields)
	case letterSwapped:
		return r.swapped(fields)
	}
	return false
}

func (r *rebuilt) rests(fields []byte) bool {
	var o ladder.Order
	o.Reference, fields = field.Take[uint32](fields)
	o.Side, fields = field.Take[byte](fields)
	o.Stock, fields = field.Take[uint8](fields)
	o.Shares, fields = field.Take[uint16](fields)
	o.Price, _ = field.Take[uint16](fields)
	if r.left(o.Reference) > 0 || !sideMayBe(o.Side) || o.Shares == 0 {
		return false
	}
	r.add(o)
	return true
}

func (r *rebuilt) executed(fields []byte) bool {
	reference, fields := field.Take[uint32](fields)
	shares, _ := field.Take[uint16](fields)
	if shares == 0 || shares > r.left(reference) {
		return false
	}
	r.lessen(reference, shares)
	return true
}

// lessened: other than an execution it leaves some; where none are left, the tape tells that the order is gone.
func (r *rebuilt) lessened(fields []byte) bool {
	reference, fields := field.Take[uint32](fields)
	shares, _ := field.Take[uint16](fields)
	if shares == 0 || shares >= r.left(reference) {
		return false
	}
	r.lessen(reference, shares)
	return true
}

func (r *rebuilt) gone(fields []byte) bool {
	reference, _ := field.Take[uint32](fields)
	left := r.left(reference)
	if left == 0 {
		return false
	}
	r.lessen(reference, left)
	return true
}

func (r *rebuilt) swapped(fields []byte) bool {
	reference, fields := field.Take[uint32](fields)
	newReference, fields := field.Take[uint32](fields)
	shares, fields := field.Take[uint16](fields)
	price, _ := field.Take[uint16](fields)
	if r.left(reference) == 0 || newReference != reference && r.left(newReference) > 0 || shares == 0 {
		return false
	}
	place := r.places[reference]
	old := r.orders[place]
	o := ladder.Order{Reference: newReference, Side: old.Side, Stock: old.Stock, Price: price, Shares: shares}
	r.lessen(reference, old.Shares)
	if ladder.KeepsPlace(old, o) {
		r.put(place, o)
	} else {
		r.add(o)
	}
	return true
}

// left is how many shares an order has: 0, if none rests with this reference.
func (r *rebuilt) left(reference uint32) uint16 {
	place, rests := r.places[reference]
	if !rests {
		return 0
	}
	return r.orders[place].Shares
}

// lessen takes shares away from an order that has so many; with none it rests no more.
func (r *rebuilt) lessen(reference uint32, shares uint16) {
	o := &r.orders[r.places[reference]]
	o.Shares -= shares
	if o.Shares == 0 {
		delete(r.places, reference)
	}
}

func (r *rebuilt) put(place int, o ladder.Order) {
	r.orders[place] = o
	r.places[o.Reference] = place
}

// add puts an order behind all others.
func (r *rebuilt) add(o ladder.Order) {
	r.orders = append(r.orders, o)
	r.places[o.Reference] = len(r.orders) - 1
}

// list is the orders that rest. The sort is a stable one: those of one price stay as they came.
func (r *rebuilt) list() []api.Order {
	var list []api.Order
	for _, o := range r.orders {
		if o.Shares > 0 {
			list = append(list, plain(o))
		}
	}
	slices.SortStableFunc(list, byBook)
	return list
}

// byBook: by stocks, to buy ahead of to sell, the better prices first.
func byBook(a, b api.Order) int {
	better := cmp.Compare(a.Price, b.Price)
	if a.Side == ladder.Buy {
		better = -better
	}
	return cmp.Or(cmp.Compare(a.Stock, b.Stock), cmp.Compare(a.Side, b.Side), better)
}

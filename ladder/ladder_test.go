package ladder

import (
	"slices"
	"testing"
)

func order(reference uint32, side byte, stock uint8, price, shares uint16) Order {
	return Order{Reference: reference, Side: side, Stock: stock, Price: price, Shares: shares}
}

func references(list []Order) []uint32 {
	var out []uint32
	for _, o := range list {
		out = append(out, o.Reference)
	}
	return out
}

func wantBook(t *testing.T, b *Books, stock int, want ...uint32) {
	t.Helper()
	if got := references(b.List(stock)); !slices.Equal(got, want) {
		t.Errorf("book %d: %v, want %v", stock, got, want)
	}
}

func TestListGoesByPriceThenAge(t *testing.T) {
	b := New(2, 5, 20)
	wantBook(t, b, 0)
	for k, o := range []Order{
		order(0, Buy, 0, 1, 1), order(0, Sell, 0, 5, 1), order(0, Buy, 0, 2, 1), order(0, Sell, 0, 4, 1),
		order(0, Buy, 1, 5, 1), order(0, Buy, 0, 2, 9), order(0, Sell, 0, 4, 9), order(0, Buy, 0, 1, 9),
	} {
		o.Reference = uint32(k + 1)
		if b.Rest(o) == Nowhere {
			t.Fatalf("order %d has no place", k+1)
		}
	}
	wantBook(t, b, 0, 3, 6, 1, 8, 4, 7, 2)
	wantBook(t, b, 1, 5)
	if b.Resting() != 8 {
		t.Errorf("%d rest", b.Resting())
	}
}

func TestReduce(t *testing.T) {
	for _, c := range []struct {
		gone int
		want []uint32
	}{{0, []uint32{2, 3}}, {1, []uint32{1, 3}}, {2, []uint32{1, 2}}} {
		b := New(1, 1, 3)
		var places []int
		for k := range 3 {
			places = append(places, b.Rest(order(uint32(k+1), Sell, 0, 1, 10)))
		}
		if left := b.Reduce(places[c.gone], 4); left != 6 {
			t.Errorf("%d are left", left)
		}
		wantBook(t, b, 0, 1, 2, 3)
		if left := b.Reduce(places[c.gone], 6); left != 0 {
			t.Errorf("%d are left", left)
		}
		wantBook(t, b, 0, c.want...)
		b.Rest(order(4, Sell, 0, 1, 1))
		wantBook(t, b, 0, append(c.want, 4)...)
	}
}

func TestPoolIsUsedAgain(t *testing.T) {
	const size = 4
	b := New(2, 3, size)
	for round := range 10 {
		var places []int
		for k := range size {
			if b.Full() {
				t.Fatalf("round %d: full with %d", round, k)
			}
			places = append(places, b.Rest(order(uint32(k), Buy, uint8(k%2), uint16(1+(k+round)%3), 5)))
		}
		if !b.Full() || b.Resting() != size {
			t.Fatalf("round %d: not full with %d", round, b.Resting())
		}
		if b.Rest(order(99, Buy, 0, 1, 1)) != Nowhere || b.Resting() != size {
			t.Fatalf("round %d: one more rests", round)
		}
		for k := range places {
			b.Reduce(places[(k+round)%size], 5)
		}
		if b.Resting() != 0 || len(b.List(0))+len(b.List(1)) != 0 {
			t.Fatalf("round %d: %d rest", round, b.Resting())
		}
	}
}

func TestMeets(t *testing.T) {
	b := New(2, 10, 10)
	for k, o := range []Order{
		order(0, Buy, 0, 3, 1), order(0, Buy, 0, 4, 1), order(0, Buy, 0, 4, 1),
		order(0, Sell, 0, 7, 1), order(0, Sell, 0, 6, 1), order(0, Sell, 0, 6, 1),
	} {
		o.Reference = uint32(k + 1)
		b.Rest(o)
	}
	for _, c := range []struct {
		o    Order
		want uint32 // 0: none
	}{
		{order(0, Buy, 0, 5, 1), 0}, {order(0, Buy, 0, 6, 1), 5}, {order(0, Buy, 0, 10, 1), 5}, {order(0, Buy, 0, 1, 1), 0},
		{order(0, Sell, 0, 5, 1), 0}, {order(0, Sell, 0, 4, 1), 2}, {order(0, Sell, 0, 1, 1), 2}, {order(0, Sell, 0, 10, 1), 0},
		{order(0, Buy, 1, 10, 1), 0}, {order(0, Sell, 1, 1, 1), 0},
	} {
		place := b.Meets(c.o)
		if (place == Nowhere) != (c.want == 0) || b.Order(place).Reference != c.want {
			t.Errorf("%c at %d in %d: meets %d, want %d", c.o.Side, c.o.Price, c.o.Stock, b.Order(place).Reference, c.want)
		}
	}
}

func TestReplace(t *testing.T) {
	for _, c := range []struct {
		which         int
		price, shares uint16
		want          []uint32
	}{
		{0, 2, 10, []uint32{9, 2, 3, 4}}, {1, 2, 1, []uint32{1, 9, 3, 4}}, {2, 2, 10, []uint32{1, 2, 9, 4}},
		{0, 2, 11, []uint32{2, 3, 9, 4}}, {1, 2, 11, []uint32{1, 3, 9, 4}}, {2, 2, 11, []uint32{1, 2, 9, 4}},
		{0, 3, 1, []uint32{2, 3, 4, 9}}, {2, 3, 10, []uint32{1, 2, 4, 9}}, {3, 2, 1, []uint32{1, 2, 3, 9}},
		{1, 1, 1, []uint32{9, 1, 3, 4}}, {3, 4, 99, []uint32{1, 2, 3, 9}},
	} {
		b := New(2, 4, 4)
		var places []int
		for k := range 3 {
			places = append(places, b.Rest(order(uint32(k+1), Sell, 1, 2, 10)))
		}
		places = append(places, b.Rest(order(4, Sell, 1, 3, 10)))
		place := places[c.which]
		b.Replace(place, order(9, Sell, 1, c.price, c.shares))
		wantBook(t, b, 1, c.want...)
		if o := b.Order(place); o.Reference != 9 || o.Price != c.price || o.Shares != c.shares {
			t.Errorf("%+v", o)
		}
		if b.Resting() != 4 || !b.Full() {
			t.Errorf("%d rest", b.Resting())
		}
		for _, place := range places { // the lines are whole, from either end
			b.Reduce(place, b.Order(place).Shares)
		}
		wantBook(t, b, 1)
		b.Rest(order(5, Sell, 1, 2, 1))
		wantBook(t, b, 1, 5)
	}
}

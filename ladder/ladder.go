// Package ladder: the orders that rest, in lines on ladders of prices.
package ladder

const (
	Buy  = 'B'
	Sell = 'S'
)

// Books are those of all stocks; their orders share one pool.
type Books struct {
	pool   pool
	levels int
	lines  [][2][]line // by stock, side and price less 1
}

// New makes empty books.
func New(stocks, levels, size int) *Books {
	b := &Books{pool: newPool(size), levels: levels, lines: make([][2][]line, stocks)}
	for k := range b.lines {
		b.lines[k] = [2][]line{make([]line, levels), make([]line, levels)}
	}
	return b
}

// Stocks is how many stocks there are.
func (b *Books) Stocks() int { return len(b.lines) }

// Levels is how many prices there are.
func (b *Books) Levels() int { return b.levels }

// Resting is how many orders rest, in all books.
func (b *Books) Resting() int { return b.pool.taken }

// Full tells whether no other order can rest.
func (b *Books) Full() bool { return b.pool.free == Nowhere }

// Order is the one that rests at a place.
func (b *Books) Order(place int) Order { return b.pool.orders[place] }

// Rest puts an order behind the others of its price, and answers its place: Nowhere, if the pool is full.
func (b *Books) Rest(o Order) int {
	if b.Full() {
		return Nowhere
	}
	place := b.pool.take(o)
	b.pool.join(b.lineOf(o), place)
	return place
}

// Reduce takes shares away from an order that has so many, and answers what is left; with none it rests no more.
func (b *Books) Reduce(place int, shares uint16) uint16 {
	o := &b.pool.orders[place]
	o.Shares -= shares
	left := o.Shares
	if left == 0 {
		b.pool.leave(b.lineOf(*o), place)
		b.pool.giveBack(place)
	}
	return left
}

// KeepsPlace tells whether an order that replaces an old one stands where that one stood,
// and not behind the others of its price.
func KeepsPlace(old, o Order) bool { return o.Price == old.Price && o.Shares <= old.Shares }

// Replace puts an order in the stead of the one at a place, of the same stock and side.
func (b *Books) Replace(place int, o Order) {
	old := &b.pool.orders[place]
	if KeepsPlace(*old, o) {
		o.links = old.links
		*old = o
		return
	}
	b.pool.leave(b.lineOf(*old), place)
	*old = o
	b.pool.join(b.lineOf(o), place)
}

// Meets is the place of the order that this one meets first: Nowhere, if it does not cross.
func (b *Books) Meets(o Order) int {
	other := otherSide(o.Side)
	for rank := range b.levels {
		price := b.ranked(other, rank)
		if !reaches(o, price) {
			break
		}
		if first := b.line(int(o.Stock), other, price).first; first != Nowhere {
			return first
		}
	}
	return Nowhere
}

// List is the orders that rest in a book: to buy, then to sell, of each side the first one first.
func (b *Books) List(stock int) []Order {
	var list []Order
	for _, side := range [2]byte{Buy, Sell} {
		for rank := range b.levels {
			l := b.line(stock, side, b.ranked(side, rank))
			for place := l.first; place != Nowhere; place = b.pool.orders[place].behind() {
				list = append(list, b.pool.orders[place])
			}
		}
	}
	return list
}

func (b *Books) lineOf(o Order) *line { return b.line(int(o.Stock), o.Side, int(o.Price)) }

func (b *Books) line(stock int, side byte, price int) *line {
	if side == Buy {
		return &b.lines[stock][0][price-1]
	}
	return &b.lines[stock][1][price-1]
}

// ranked is a price by how good it is for who comes from the other side: 0 is the best one.
func (b *Books) ranked(side byte, rank int) int {
	if side == Buy {
		return b.levels - rank
	}
	return rank + 1
}

func otherSide(side byte) byte {
	if side == Buy {
		return Sell
	}
	return Buy
}

func reaches(o Order, price int) bool {
	if o.Side == Buy {
		return price <= int(o.Price)
	}
	return price >= int(o.Price)
}

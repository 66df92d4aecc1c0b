package ladder

// Nowhere is the place of an order that does not rest.
const Nowhere = 0

// links are the places of an order's neighbours in its line.
type links struct{ before, after int }

func (l *links) ahead() int { return l.before }

func (l *links) behind() int { return l.after }

func (l *links) setAhead(place int) { l.before = place }

func (l *links) setBehind(place int) { l.after = place }

// Order is an order that rests, or that is about to.
type Order struct {
	links
	Reference, Token uint32
	Side             byte
	Stock            uint8
	Price, Shares    uint16
}

// pool holds orders by their places. Place 0 is nobody's, so that links to
// Nowhere can be written without asking; free places hang together by their links.
type pool struct {
	orders []Order
	free   int
	taken  int
}

func newPool(size int) pool {
	p := pool{orders: make([]Order, size+1)}
	for place := size; place > Nowhere; place-- {
		p.orders[place].setBehind(p.free)
		p.free = place
	}
	return p
}

func (p *pool) take(o Order) int {
	place := p.free
	p.free = p.orders[place].behind()
	p.orders[place] = o
	p.taken++
	return place
}

func (p *pool) giveBack(place int) {
	p.orders[place] = Order{}
	p.orders[place].setBehind(p.free)
	p.free = place
	p.taken--
}

// line is the orders of one price, the oldest first.
type line struct{ first, last int }

func (p *pool) join(l *line, place int) {
	o := &p.orders[place]
	o.setAhead(l.last)
	o.setBehind(Nowhere)
	p.orders[l.last].setBehind(place)
	if l.first == Nowhere {
		l.first = place
	}
	l.last = place
}

func (p *pool) leave(l *line, place int) {
	o := &p.orders[place]
	p.orders[o.ahead()].setBehind(o.behind())
	p.orders[o.behind()].setAhead(o.ahead())
	if l.first == place {
		l.first = o.behind()
	}
	if l.last == place {
		l.last = o.ahead()
	}
}

package bourse_test

import (
	"math/rand/v2"
	"slices"
	"testing"

	"bourse/api"
	"bourse/bourse"
)

// account is what became of a token that was accepted.
type account struct{ accepted, executed, canceled, replaced int }

// ledger follows a bourse by its answers alone, with the books as they were ahead of a message:
// so it does not hang on how the program, or the model, comes to them.
type ledger struct {
	t       *testing.T
	books   [][]api.Order
	tokens  map[int]account
	matches map[int][]int
	letters map[byte]int
}

func number(bytes []byte) int {
	n := 0
	for _, c := range bytes {
		n = n<<8 | int(c)
	}
	return n
}

func allBooks(b *bourse.Bourse, stocks int) [][]api.Order {
	var all [][]api.Order
	for stock := range stocks {
		l, _ := b.Book(stock)
		all = append(all, l)
	}
	return all
}

// split cuts answers, or a tape, into messages.
func split(t *testing.T, bytes []byte) [][]byte {
	t.Helper()
	sizes := map[byte]int{'A': 22, 'J': 12, 'U': 23, 'X': 14, 'F': 19, 'a': 17, 'e': 17, 'x': 13, 'd': 11, 'u': 19}
	var all [][]byte
	for len(bytes) > 0 {
		n := sizes[bytes[0]]
		if n == 0 || n > len(bytes) {
			t.Fatalf("% x is no message", bytes)
		}
		all = append(all, bytes[:n])
		bytes = bytes[n:]
	}
	return all
}

// resting finds a token's order in the books that were.
func (l *ledger) resting(token int) (stock, k int) {
	for stock, book := range l.books {
		if k := slices.IndexFunc(book, func(o api.Order) bool { return o.Token == token }); k >= 0 {
			return stock, k
		}
	}
	l.t.Fatalf("token %d does not rest", token)
	return 0, 0
}

func (l *ledger) take(answers []byte) {
	l.t.Helper()
	filled := 0
	for _, a := range split(l.t, answers) {
		l.letters[a[0]]++
		token := number(a[7:11])
		c := l.tokens[token]
		switch a[0] {
		case 'J':
			continue
		case 'A':
			c.accepted = number(a[15:17])
		case 'U':
			c.accepted = number(a[13:15])
			l.replaced(number(a[19:23]))
		case 'X':
			c.canceled += number(a[11:13])
		case 'F':
			c.executed += number(a[11:13])
			match := number(a[15:19])
			l.matches[match] = append(l.matches[match], number(a[11:13]))
			if filled++; filled%2 == 1 { // of each two the first is to the one that rests
				l.executed(token, number(a[11:13]), number(a[13:15]))
			}
		}
		l.tokens[token] = c
	}
}

// replaced: from now on the old order does not stand in the way of those that are met.
func (l *ledger) replaced(token int) {
	l.t.Helper()
	stock, k := l.resting(token)
	c := l.tokens[token]
	c.replaced += l.books[stock][k].Shares
	l.tokens[token] = c
	l.books[stock] = slices.Delete(l.books[stock], k, k+1)
}

// executed: P7: it is the first one of its side, and has the price that is told.
func (l *ledger) executed(token, shares, price int) {
	l.t.Helper()
	stock, k := l.resting(token)
	o := &l.books[stock][k]
	first := slices.IndexFunc(l.books[stock], func(other api.Order) bool { return other.Side == o.Side })
	if k != first || o.Price != price || shares < 1 || shares > o.Shares {
		l.t.Errorf("P7: %d at %d of %+v, place %d of %+v", shares, price, *o, k, l.books[stock])
	}
	if o.Shares -= shares; o.Shares == 0 {
		l.books[stock] = slices.Delete(l.books[stock], k, k+1)
	}
}

func (l *ledger) addUp(rests map[int]int) {
	l.t.Helper()
	for token, c := range l.tokens {
		if c.accepted != c.executed+c.canceled+c.replaced+rests[token] || c.replaced > 0 && rests[token] > 0 {
			l.t.Errorf("P9: token %d: %+v, %d rest", token, c, rests[token])
		}
	}
	for match, shares := range l.matches {
		if len(shares) != 2 || shares[0] != shares[1] || match < 1 || match > len(l.matches) {
			l.t.Errorf("P9: match %d: %v", match, shares)
		}
	}
}

func TestWhatFollows(t *testing.T) {
	const stocks, levels, pool = 3, 8, 30
	for seed := range uint64(20) {
		r := rand.New(rand.NewPCG(seed, 5))
		m := &model{stocks: stocks, levels: levels, pool: pool}
		b := start(t, stocks, levels, pool)
		l := &ledger{t: t, tokens: map[int]account{}, matches: map[int][]int{}, letters: map[byte]int{}}
		for range 1000 {
			l.books = allBooks(b, stocks)
			b.Feed(m.next(r))
			answers, tape := b.Answers(), b.Tape()
			if len(answers) > 0 && answers[0] == 'J' {
				rejectedChangesNothing(t, b, l.books, answers, tape)
			}
			l.take(answers)
			for stock := range stocks {
				notCrossed(t, b, stock)
			}
		}
		rests := map[int]int{}
		for _, book := range allBooks(b, stocks) {
			for _, o := range book {
				rests[o.Token] = o.Shares
			}
		}
		l.addUp(rests)
		for _, letter := range []byte("AJUXF") {
			if l.letters[letter] < 20 {
				t.Errorf("too few answers %c: %d", letter, l.letters[letter])
			}
		}
	}
}

// rejectedChangesNothing: P10.
func rejectedChangesNothing(t *testing.T, b *bourse.Bourse, before [][]api.Order, answers, tape []byte) {
	t.Helper()
	if len(split(t, answers)) != 1 || len(tape) != 0 {
		t.Errorf("P10: rejected: answers % x, tape % x", answers, tape)
	}
	for stock, book := range before {
		wantBook(t, "P10: rejected", b, stock, book...)
	}
}

// notCrossed: P7.
func notCrossed(t *testing.T, b *bourse.Bourse, stock int) {
	t.Helper()
	buy, sell := 0, api.MaxLevels+1
	l, _ := b.Book(stock)
	for _, o := range l {
		if o.Side == 'B' {
			buy = max(buy, o.Price)
		} else {
			sell = min(sell, o.Price)
		}
	}
	if buy >= sell {
		t.Errorf("P7: to buy at %d, to sell at %d", buy, sell)
	}
}

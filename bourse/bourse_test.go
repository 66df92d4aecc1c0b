package bourse_test

import (
	"math"
	"testing"

	"bourse/api"
	"bourse/bourse"
)

func TestNewTakesWhatIsWithinBounds(t *testing.T) {
	for _, c := range [][3]int{{1, 1, 1}, {8, 64, 64}, {1, 64, 1}, {8, 1, 64}, {3, 10, 5}} {
		b := start(t, c[0], c[1], c[2])
		wantLook(t, "P3: New", b, api.View{Open: true})
		for stock := range c[0] {
			wantBook(t, "P3: New", b, stock)
		}
	}
}

func TestNewRefusesWhatIsNot(t *testing.T) {
	most := [3]int{api.MaxStocks, api.MaxLevels, api.MaxPool}
	for k := range most {
		for _, n := range []int{0, -1, most[k] + 1, math.MinInt, math.MaxInt, 1 << 32, 1<<32 + 1} {
			c := [3]int{1, 1, 1}
			c[k] = n
			if b, e := bourse.New(c[0], c[1], c[2]); b != nil || e != api.ErrArg {
				t.Errorf("P3: New(%v): %v, %d", c, b, e)
			}
		}
	}
	if b, e := bourse.New(0, 65, -1); b != nil || e != api.ErrArg {
		t.Errorf("P3: New, all wrong: %v, %d", b, e)
	}
}

func TestTick(t *testing.T) {
	b := start(t, 1, 10, 4)
	for _, n := range []int{0, 1, api.MaxTick, 0} {
		if e := b.Tick(n); e != api.OK {
			t.Errorf("P4: Tick(%d): %d", n, e)
		}
	}
	want := api.View{Time: 1000001, Open: true}
	wantLook(t, "P4: Tick", b, want)
	for _, n := range []int{-1, api.MaxTick + 1, math.MinInt, math.MaxInt, 1 << 48} {
		if e := b.Tick(n); e != api.ErrArg {
			t.Errorf("P4: Tick(%d): %d", n, e)
		}
	}
	wantLook(t, "P4: Tick with an error", b, want)
	wantOut(t, "P4: Tick", b, nil, nil)
}

func TestTimeGoesRound(t *testing.T) {
	if testing.Short() {
		t.Skip("many ticks")
	}
	b := start(t, 1, 10, 4)
	const round = 1 << 48
	for range round / api.MaxTick {
		b.Tick(api.MaxTick)
	}
	b.Tick(round%api.MaxTick - 1)
	wantLook(t, "P4: the last time", b, api.View{Time: round - 1, Open: true})
	b.Feed(enter(1, 'B', 0, 1, 1, 'D'))
	wantOut(t, "P4: the last time", b, at(round-1).accepted(1, 'B', 0, 1, 1, 'D', 1), at(round-1).rests(1, 'B', 0, 1, 1))
	b.Tick(3)
	wantLook(t, "P4: behind the last time", b, api.View{Time: 2, Resting: 1, Open: true})
}

func TestTimeStandsOnAllThatGoesOut(t *testing.T) {
	b := start(t, 1, 10, 4)
	now := at(0)
	step := func(what string, message, answers, tape []byte) {
		t.Helper()
		b.Feed(message)
		wantOut(t, what, b, answers, tape)
		b.Tick(70000)
		now += 70000
	}
	b.Tick(70000)
	now += 70000
	step("A, a", enter(1, 'S', 0, 5, 9, 'D'), now.accepted(1, 'S', 0, 5, 9, 'D', 1), now.rests(1, 'S', 0, 9, 5))
	step("J", enter(1, 'S', 0, 5, 9, 'D'), now.rejected(1, 'D'), nil)
	step("F, X, e", enter(2, 'B', 0, 5, 2, 'I'), list(now.accepted(2, 'B', 0, 5, 2, 'I', 2), now.filled(1, 2, 5, 1), now.filled(2, 2, 5, 1)), now.executed(1, 2, 1))
	step("X", enter(3, 'B', 0, 4, 2, 'I'), list(now.accepted(3, 'B', 0, 4, 2, 'I', 3), now.canceled(3, 2, 'I')), nil)
	step("X, x", cancel(1, 3), now.canceled(1, 4, 'U'), now.lessened(1, 4))
	step("X, d", cancel(1, 0), now.canceled(1, 3, 'U'), now.gone(1))
	step("A, a", enter(4, 'S', 0, 5, 9, 'D'), now.accepted(4, 'S', 0, 5, 9, 'D', 4), now.rests(4, 'S', 0, 9, 5))
	step("U, u", replace(4, 5, 6, 8), now.replaced(5, 6, 8, 5, 4), now.swapped(4, 5, 8, 6))
	step("J, of a replacement", replace(5, 6, 0, 8), now.rejected(6, 'P'), nil)
	step("A, a", enter(6, 'B', 0, 5, 9, 'D'), now.accepted(6, 'B', 0, 5, 9, 'D', 6), now.rests(6, 'B', 0, 9, 5))
	step("U, F, d, e, a", replace(6, 7, 6, 10),
		list(now.replaced(7, 6, 10, 7, 6), now.filled(5, 8, 6, 2), now.filled(7, 8, 6, 2)),
		list(now.gone(6), now.executed(5, 8, 2), now.rests(7, 'B', 0, 2, 6)))
	step("Z", []byte{'Q'}, now.closed(), nil)
}

func TestLettersThatClose(t *testing.T) {
	for letter := range 256 {
		if letter == 'E' || letter == 'R' || letter == 'C' {
			continue
		}
		b := start(t, 1, 10, 4)
		b.Tick(5)
		b.Feed(list(enter(1, 'B', 0, 1, 1, 'D'), []byte{byte(letter)}, enter(2, 'B', 0, 1, 1, 'D'), []byte{byte(letter)}))
		wantOut(t, "P4: closed", b, list(at(5).accepted(1, 'B', 0, 1, 1, 'D', 1), at(5).closed()), at(5).rests(1, 'B', 0, 1, 1))
		wantLook(t, "P4: closed", b, api.View{Time: 5, Resting: 1})
	}
}

func TestClosedBourse(t *testing.T) {
	b := start(t, 1, 10, 4)
	b.Feed(list(enter(1, 'B', 0, 1, 1, 'D'), []byte{'e'}))
	drain(b)
	for _, m := range [][]byte{enter(2, 'S', 0, 1, 1, 'D'), cancel(1, 0), replace(1, 2, 3, 4), {'E', 0}, {'?'}, nil} {
		b.Feed(m)
		wantOut(t, "P4: a bourse that is closed", b, nil, nil)
		wantLook(t, "P4: a bourse that is closed", b, api.View{Resting: 1})
	}
	wantBook(t, "P5: a bourse that is closed", b, 0, api.Order{Reference: 1, Token: 1, Side: 'B', Price: 1, Shares: 1})
	if e := b.Tick(7); e != api.OK || b.Look().Time != 7 {
		t.Errorf("P4: Tick of a bourse that is closed: %d, %+v", e, b.Look())
	}
}

func TestOutIsToldOnce(t *testing.T) {
	b := start(t, 1, 10, 4)
	b.Feed(enter(1, 'B', 0, 1, 1, 'D'))
	b.Feed(enter(2, 'B', 0, 1, 1, 'D'))
	wantAnswers(t, "P5: of two messages", b, list(at(0).accepted(1, 'B', 0, 1, 1, 'D', 1), at(0).accepted(2, 'B', 0, 1, 1, 'D', 2)))
	wantAnswers(t, "P5: told already", b, nil)
	b.Feed(cancel(1, 0))
	wantTape(t, "P5: of three messages", b, list(at(0).rests(1, 'B', 0, 1, 1), at(0).rests(2, 'B', 0, 1, 1), at(0).gone(1)))
	wantTape(t, "P5: told already", b, nil)
	wantAnswers(t, "P5: since then", b, at(0).canceled(1, 1, 'U'))
}

func TestBookOrder(t *testing.T) {
	b := start(t, 2, 10, 20)
	for _, m := range [][]byte{
		enter(1, 'B', 0, 3, 10, 'D'), enter(2, 'B', 0, 4, 20, 'D'), enter(3, 'B', 0, 3, 30, 'D'), enter(4, 'B', 0, 4, 40, 'D'),
		enter(5, 'S', 0, 9, 50, 'D'), enter(6, 'S', 0, 7, 60, 'D'), enter(7, 'S', 0, 9, 70, 'D'), enter(8, 'S', 0, 7, 80, 'D'),
		enter(0xfffffffe, 'S', 1, 10, 9999, 'D'),
	} {
		b.Feed(m)
	}
	wantBook(t, "P5: by price and age", b, 0,
		api.Order{Reference: 2, Token: 2, Side: 'B', Price: 4, Shares: 20},
		api.Order{Reference: 4, Token: 4, Side: 'B', Price: 4, Shares: 40},
		api.Order{Reference: 1, Token: 1, Side: 'B', Price: 3, Shares: 10},
		api.Order{Reference: 3, Token: 3, Side: 'B', Price: 3, Shares: 30},
		api.Order{Reference: 6, Token: 6, Side: 'S', Price: 7, Shares: 60},
		api.Order{Reference: 8, Token: 8, Side: 'S', Price: 7, Shares: 80},
		api.Order{Reference: 5, Token: 5, Side: 'S', Price: 9, Shares: 50},
		api.Order{Reference: 7, Token: 7, Side: 'S', Price: 9, Shares: 70},
	)
	wantBook(t, "P5: the last token, the greatest order", b, 1, api.Order{Reference: 9, Token: 0xfffffffe, Side: 'S', Stock: 1, Price: 10, Shares: 9999})
	wantLook(t, "P5: in all books", b, api.View{Resting: 9, Open: true})
}

func TestBookOfNoStock(t *testing.T) {
	for _, stocks := range []int{1, 8} {
		b := start(t, stocks, 10, 4)
		for _, stock := range []int{-1, stocks, math.MinInt, math.MaxInt, 256, 1 << 32} {
			if l, e := b.Book(stock); l != nil || e != api.ErrArg {
				t.Errorf("P5: Book(%d) of %d stocks: %v, %d", stock, stocks, l, e)
			}
		}
		wantBook(t, "P5: the last stock", b, stocks-1)
	}
}

func TestPartial(t *testing.T) {
	b := start(t, 1, 10, 4)
	for _, m := range [][]byte{enter(1, 'B', 0, 1, 1, 'D'), replace(9, 8, 1, 1), replace(1, 2, 1, 1), cancel(9, 0)} {
		for k := range m {
			if p := b.Look().Partial; p != k {
				t.Errorf("P5: %c: %d bytes of %d", m[0], p, k)
			}
			b.Feed(m[k : k+1])
		}
		if p := b.Look().Partial; p != 0 {
			t.Errorf("P5: %c: %d bytes, though it is whole", m[0], p)
		}
	}
}

func TestMessageIsDoneAtItsLastByte(t *testing.T) {
	b := start(t, 1, 10, 4)
	m := enter(1, 'B', 0, 1, 1, 'D')
	b.Feed(m[:len(m)-1])
	wantOut(t, "P4: a byte is missing", b, nil, nil)
	b.Tick(3)
	b.Feed(nil)
	b.Feed([]byte{})
	b.Feed(m[len(m)-1:])
	wantOut(t, "P4: the last byte", b, at(3).accepted(1, 'B', 0, 1, 1, 'D', 1), at(3).rests(1, 'B', 0, 1, 1))
	m = replace(1, 2, 3, 4)
	b.Feed(m[:len(m)-1])
	wantOut(t, "P4: a byte of a replacement is missing", b, nil, nil)
	b.Tick(3)
	b.Feed(m[len(m)-1:])
	wantOut(t, "P4: the last byte of a replacement", b, at(6).replaced(2, 3, 4, 2, 1), at(6).swapped(1, 2, 4, 3))
}

package bourse_test

import (
	"testing"

	"bourse/api"
)

func TestReplaceOfATokenThatDoesNotRestIsNothing(t *testing.T) {
	b := start(t, 1, 10, 9)
	b.Feed(list(replace(5, 1, 5, 5), enter(1, 'B', 0, 5, 10, 'D'), replace('E', 'C', 0, 65535)))
	wantOut(t, "what stands between is done", b, at(0).accepted(1, 'B', 0, 5, 10, 'D', 1), at(0).rests(1, 'B', 0, 10, 5))
	b.Feed(list(
		enter(2, 'S', 0, 5, 10, 'I'), // both are executed
		enter(3, 'S', 0, 5, 5, 'I'),  // at once, in vain
		enter(4, 'S', 0, 5, 5, 'D'), cancel(4, 0),
		enter(5, 'S', 0, 5, 5, 'D'), replace(5, 6, 5, 5),
		enter(7, 'S', 0, 11, 5, 'D'), // rejected
	))
	drain(b)
	for _, token := range []int{0, 1, 2, 3, 4, 5, 7, 8, 0xffffffff} {
		b.Feed(list(replace(token, 9, 5, 5), replace(token, token, 5, 5), replace(token, 6, 5, 5), replace(token, 9, 0, 5), replace(token, 9, 5, 0)))
		wantOut(t, "it does not rest", b, nil, nil)
	}
	wantBook(t, "it does not rest", b, 0, api.Order{Reference: 6, Token: 6, Side: 'S', Price: 5, Shares: 5})
	b.Feed(enter(9, 'B', 0, 1, 1, 'D'))
	wantAnswers(t, "no reference is used, nor a token", b, at(0).accepted(9, 'B', 0, 1, 1, 'D', 7))
}

func TestReplaceIsRejectedForTheFirstReason(t *testing.T) {
	b := start(t, 1, 10, 2)
	b.Feed(list(enter(1, 'B', 0, 5, 5, 'D'), enter(2, 'S', 0, 6, 5, 'D'), enter(3, 'B', 0, 1, 1, 'I'), replace(1, 4, 5, 5)))
	drain(b)
	for k, c := range []struct {
		newToken, price, shares int
		reason                  byte
	}{
		{4, 5, 5, 'D'}, {4, 0, 0, 'D'}, // its own one
		{1, 5, 5, 'D'}, {1, 11, 0, 'D'}, // the one that it had
		{2, 6, 5, 'D'}, {3, 5, 10000, 'D'}, // another one's
		{5, 0, 0, 'P'}, {5, 0, 5, 'P'}, {5, 11, 5, 'P'}, {5, 11, 10000, 'P'}, {5, 256 + 5, 5, 'P'}, {5, 65535, 5, 'P'},
		{5, 1, 0, 'Q'}, {5, 10, 10000, 'Q'}, {5, 5, 65535, 'Q'}, {5, 6, 0, 'Q'},
	} {
		b.Feed(replace(4, c.newToken, c.price, c.shares))
		wantOut(t, "P10: rejected", b, at(0).rejected(c.newToken, c.reason), nil)
		wantBook(t, "P10: rejected", b, 0,
			api.Order{Reference: 4, Token: 4, Side: 'B', Price: 5, Shares: 5}, api.Order{Reference: 2, Token: 2, Side: 'S', Price: 6, Shares: 5})
		if t.Failed() {
			t.Fatalf("line %d", k)
		}
	}
	// neither the token nor a reference is used by what was rejected
	b.Feed(replace(4, 5, 5, 5))
	wantOut(t, "behind rejections", b, at(0).replaced(5, 5, 5, 5, 4), at(0).swapped(4, 5, 5, 5))
}

func TestBoundsOfReplace(t *testing.T) {
	b := start(t, 8, 64, 1)
	b.Feed(enter(7, 'S', 7, 5, 5, 'D'))
	drain(b)
	b.Feed(replace(7, 0, 64, 9999))
	wantOut(t, "the greatest", b, at(0).replaced(0, 64, 9999, 2, 7), at(0).swapped(1, 2, 9999, 64))
	b.Feed(replace(0, 0xffffffff, 1, 1))
	wantOut(t, "the least", b, at(0).replaced(0xffffffff, 1, 1, 3, 0), at(0).swapped(2, 3, 1, 1))
	b.Feed(replace(0xffffffff, 0x01000000, 2, 2))
	wantOut(t, "the last token", b, at(0).replaced(0x01000000, 2, 2, 4, 0xffffffff), at(0).swapped(3, 4, 2, 2))
	wantBook(t, "side and stock stay", b, 7, api.Order{Reference: 4, Token: 0x01000000, Side: 'S', Stock: 7, Price: 2, Shares: 2})
	wantLook(t, "it is one order", b, api.View{Resting: 1, Open: true})
}

func TestPlaceOfAReplacement(t *testing.T) {
	for _, side := range []byte{'B', 'S'} {
		for k := range 3 { // the first, the middle, the last one of three
			for _, c := range []struct {
				what          string
				price, shares int
				keeps         bool
			}{
				{"the same shares", 5, 10, true}, {"less shares", 5, 9, true}, {"one share", 5, 1, true},
				{"a share more", 5, 11, false}, {"many more", 5, 9999, false},
			} {
				b := start(t, 1, 10, 3)
				b.Feed(list(enter(0, side, 0, 5, 10, 'D'), enter(1, side, 0, 5, 10, 'D'), enter(2, side, 0, 5, 10, 'D')))
				drain(b)
				b.Feed(replace(k, 9, c.price, c.shares))
				wantOut(t, c.what, b, at(0).replaced(9, c.price, c.shares, 4, k), at(0).swapped(1+k, 4, c.shares, c.price))
				want := []int{0, 1, 2}
				if want[k] = 9; !c.keeps {
					want = append(append(want[:k:k], want[k+1:]...), 9)
				}
				wantTokens(t, c.what, b, 0, want...)
			}
		}
	}
}

func TestReplacementAtAnotherPriceIsTheLastOne(t *testing.T) {
	b := start(t, 2, 10, 9)
	b.Feed(list(
		enter(1, 'B', 0, 5, 10, 'D'), enter(2, 'B', 0, 5, 10, 'D'), enter(3, 'B', 0, 5, 10, 'D'),
		enter(4, 'B', 0, 4, 10, 'D'), enter(5, 'B', 1, 4, 10, 'D'), enter(6, 'S', 0, 8, 10, 'D'), enter(7, 'S', 0, 9, 10, 'D'),
	))
	b.Feed(replace(2, 20, 4, 1))
	wantTokens(t, "a lower price", b, 0, 1, 3, 4, 20, 6, 7)
	b.Feed(replace(4, 40, 5, 10))
	wantTokens(t, "a higher price", b, 0, 1, 3, 40, 20, 6, 7)
	b.Feed(replace(1, 10, 6, 99))
	wantTokens(t, "a price of its own", b, 0, 10, 3, 40, 20, 6, 7)
	b.Feed(replace(10, 11, 5, 1))
	wantTokens(t, "and back", b, 0, 3, 40, 11, 20, 6, 7)
	b.Feed(replace(6, 60, 9, 1))
	wantTokens(t, "to sell", b, 0, 3, 40, 11, 20, 7, 60)
	b.Feed(replace(7, 70, 8, 10))
	wantTokens(t, "to sell", b, 0, 3, 40, 11, 20, 70, 60)
	wantTokens(t, "another stock", b, 1, 5)
	wantLook(t, "as many as came", b, api.View{Resting: 7, Open: true})
	drain(b)
	b.Feed(enter(8, 'S', 0, 4, 22, 'I'))
	wantTape(t, "they are met by their places", b, list(at(0).executed(3, 10, 1), at(0).executed(9, 10, 2), at(0).executed(11, 1, 3), at(0).executed(8, 1, 4)))
}

func TestPlaceGoesByWhatIsLeft(t *testing.T) {
	for _, lessen := range [][]byte{enter(3, 'B', 0, 5, 4, 'I'), cancel(1, 6)} {
		for _, c := range []struct {
			shares int
			want   []int
		}{{5, []int{9, 2}}, {6, []int{9, 2}}, {7, []int{2, 9}}, {10, []int{2, 9}}} {
			b := start(t, 1, 10, 9)
			b.Feed(list(enter(1, 'S', 0, 5, 10, 'D'), enter(2, 'S', 0, 5, 10, 'D'), lessen))
			b.Feed(replace(1, 9, 5, c.shares))
			wantTokens(t, "six are left", b, 0, c.want...)
			if l, _ := b.Book(0); len(l) != 2 || l[0].Shares+l[1].Shares != 10+c.shares {
				t.Errorf("its shares are the new ones: %+v", l)
			}
		}
	}
}

func TestReplacementThatCrosses(t *testing.T) {
	for _, c := range []struct {
		rests, comes byte
		best, worse  int
		limit, out   int // limit: the worst price that the replacement takes; out: one beyond it
		away         int // where it rests at first
	}{{'S', 'B', 3, 5, 5, 6, 1}, {'B', 'S', 8, 6, 6, 5, 10}} {
		b := start(t, 2, 10, 6) // the pool is full
		b.Feed(list(
			enter(1, c.rests, 0, c.worse, 10, 'D'), enter(2, c.rests, 0, c.best, 20, 'D'), enter(3, c.rests, 0, c.best, 30, 'D'),
			enter(4, c.rests, 0, c.out, 50, 'D'), enter(5, c.rests, 1, c.best, 60, 'D'), enter(6, c.comes, 0, c.away, 5, 'D'),
		))
		drain(b)
		b.Feed(replace(6, 7, c.limit, 61))
		wantOut(t, "through the book", b, list(
			at(0).replaced(7, c.limit, 61, 7, 6),
			at(0).filled(2, 20, c.best, 1), at(0).filled(7, 20, c.best, 1),
			at(0).filled(3, 30, c.best, 2), at(0).filled(7, 30, c.best, 2),
			at(0).filled(1, 10, c.worse, 3), at(0).filled(7, 10, c.worse, 3),
		), list(
			at(0).gone(6), at(0).executed(2, 20, 1), at(0).executed(3, 30, 2), at(0).executed(1, 10, 3), at(0).rests(7, c.comes, 0, 1, c.limit),
		))
		left := []api.Order{{Reference: 7, Token: 7, Side: c.comes, Price: c.limit, Shares: 1}, {Reference: 4, Token: 4, Side: c.rests, Price: c.out, Shares: 50}}
		if c.rests == 'B' {
			left[0], left[1] = left[1], left[0]
		}
		wantBook(t, "what is left", b, 0, left...)
		wantTokens(t, "another stock", b, 1, 5)
		wantLook(t, "what is left", b, api.View{Resting: 3, Open: true})
	}
}

func TestReplacementThatIsMetWhole(t *testing.T) {
	for _, shares := range []int{4, 10} {
		b := start(t, 1, 10, 9)
		b.Feed(list(enter(1, 'S', 0, 5, 10, 'D'), enter(2, 'B', 0, 4, 99, 'D'), enter(3, 'B', 0, 4, 1, 'D')))
		drain(b)
		b.Feed(replace(2, 9, 5, shares))
		wantOut(t, "nothing is left of it", b,
			list(at(0).replaced(9, 5, shares, 4, 2), at(0).filled(1, shares, 5, 1), at(0).filled(9, shares, 5, 1)),
			list(at(0).gone(2), at(0).executed(1, shares, 1)))
		want := []int{3, 1}
		if shares == 10 {
			want = want[:1]
		}
		wantTokens(t, "nothing is left of it", b, 0, want...)
		b.Feed(list(cancel(9, 0), cancel(2, 0), replace(9, 10, 1, 1)))
		wantOut(t, "nothing is left of it", b, nil, nil)
	}
}

func TestReplacementDoesNotCross(t *testing.T) {
	b := start(t, 2, 10, 9)
	b.Feed(list(enter(1, 'B', 0, 3, 10, 'D'), enter(2, 'S', 0, 6, 10, 'D'), enter(3, 'S', 1, 1, 10, 'D'), enter(4, 'B', 0, 5, 1, 'D'), enter(5, 'S', 0, 6, 1, 'D')))
	drain(b)
	b.Feed(list(replace(1, 10, 5, 10), replace(5, 50, 10, 10), replace(50, 51, 6, 1)))
	wantTape(t, "a price short of the other side", b, list(at(0).swapped(1, 6, 10, 5), at(0).swapped(5, 7, 10, 10), at(0).swapped(7, 8, 1, 6)))
	wantTokens(t, "its own side is not met", b, 0, 4, 10, 2, 51)
}

func TestTokensOfAReplacement(t *testing.T) {
	b := start(t, 1, 10, 9)
	b.Feed(list(enter(1, 'S', 0, 5, 10, 'D'), replace(1, 2, 5, 8), replace(2, 3, 5, 20)))
	drain(b)
	for _, token := range []int{1, 2} {
		b.Feed(list(cancel(token, 0), replace(token, 7, 5, 5)))
		wantOut(t, "a token that is replaced names no order", b, nil, nil)
	}
	for _, token := range []int{1, 2, 3} {
		b.Feed(enter(token, 'S', 0, 5, 5, 'D'))
		wantOut(t, "all were accepted before", b, at(0).rejected(token, 'D'), nil)
	}
	b.Feed(enter(4, 'B', 0, 5, 6, 'I'))
	wantOut(t, "met by its new names", b, list(at(0).accepted(4, 'B', 0, 5, 6, 'I', 4), at(0).filled(3, 6, 5, 1), at(0).filled(4, 6, 5, 1)), at(0).executed(3, 6, 1))
	b.Feed(cancel(3, 13))
	wantOut(t, "canceled by its new names", b, at(0).canceled(3, 1, 'U'), at(0).lessened(3, 1))
	b.Feed(cancel(3, 0))
	wantOut(t, "canceled by its new names", b, at(0).canceled(3, 13, 'U'), at(0).gone(3))
	b.Feed(enter(3, 'S', 0, 5, 5, 'D'))
	wantOut(t, "used for good", b, at(0).rejected(3, 'D'), nil)
	wantLook(t, "none rests", b, api.View{Open: true})
}

func TestReplaceInAFullPool(t *testing.T) {
	b := start(t, 1, 10, 1)
	b.Feed(enter(1, 'B', 0, 3, 10, 'D'))
	drain(b)
	for k, c := range [][2]int{{3, 9}, {3, 99}, {8, 9}, {1, 1}} {
		b.Feed(replace(1+k, 2+k, c[0], c[1]))
		wantOut(t, "it takes no room", b, at(0).replaced(2+k, c[0], c[1], 2+k, 1+k), at(0).swapped(1+k, 2+k, c[1], c[0]))
		wantBook(t, "it takes no room", b, 0, api.Order{Reference: 2 + k, Token: 2 + k, Side: 'B', Price: c[0], Shares: c[1]})
	}
	b.Feed(enter(9, 'B', 0, 1, 1, 'D'))
	wantAnswers(t, "still full", b, at(0).rejected(9, 'F'))
	b.Feed(list(cancel(5, 0), enter(9, 'B', 0, 1, 1, 'D')))
	wantTokens(t, "room again", b, 0, 9)
}

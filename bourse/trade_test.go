package bourse_test

import (
	"testing"

	"bourse/api"
)

func TestDocumentExample(t *testing.T) {
	b := start(t, 1, 10, 4)
	b.Feed([]byte{'E', 0, 0, 0, 7, 'S', 0, 0, 5, 0, 100, 'D'})
	wantOut(t, "line 2", b,
		[]byte{'A', 0, 0, 0, 0, 0, 0, 0, 0, 0, 7, 'S', 0, 0, 5, 0, 100, 'D', 0, 0, 0, 1},
		[]byte{'a', 0, 0, 0, 0, 0, 0, 0, 0, 0, 1, 'S', 0, 0, 100, 0, 5})
	b.Feed([]byte{'E', 0, 0, 0, 8, 'B', 0, 0, 6, 0, 30, 'I'})
	wantOut(t, "line 3", b,
		list([]byte{'A', 0, 0, 0, 0, 0, 0, 0, 0, 0, 8, 'B', 0, 0, 6, 0, 30, 'I', 0, 0, 0, 2},
			[]byte{'F', 0, 0, 0, 0, 0, 0, 0, 0, 0, 7, 0, 30, 0, 5, 0, 0, 0, 1},
			[]byte{'F', 0, 0, 0, 0, 0, 0, 0, 0, 0, 8, 0, 30, 0, 5, 0, 0, 0, 1}),
		[]byte{'e', 0, 0, 0, 0, 0, 0, 0, 0, 0, 1, 0, 30, 0, 0, 0, 1})
	b.Feed([]byte{'C', 0, 0, 0, 7, 0, 50})
	wantOut(t, "line 4", b,
		[]byte{'X', 0, 0, 0, 0, 0, 0, 0, 0, 0, 7, 0, 20, 'U'},
		[]byte{'x', 0, 0, 0, 0, 0, 0, 0, 0, 0, 1, 0, 20})
	b.Feed([]byte{'R', 0, 0, 0, 7, 0, 0, 0, 9, 0, 4, 0, 50})
	wantOut(t, "line 5", b,
		[]byte{'U', 0, 0, 0, 0, 0, 0, 0, 0, 0, 9, 0, 4, 0, 50, 0, 0, 0, 3, 0, 0, 0, 7},
		[]byte{'u', 0, 0, 0, 0, 0, 0, 0, 0, 0, 1, 0, 0, 0, 3, 0, 50, 0, 4})
	b.Feed([]byte{'E', 0, 0, 0, 9, 'B', 0, 0, 5, 0, 1, 'D'})
	wantOut(t, "line 6", b, []byte{'J', 0, 0, 0, 0, 0, 0, 0, 0, 0, 9, 'D'}, nil)
}

func TestEnterIsRejectedForTheFirstReason(t *testing.T) {
	b := start(t, 2, 10, 1)
	b.Feed(enter(1, 'B', 0, 5, 5, 'D')) // the pool is full now
	drain(b)
	for k, c := range []struct {
		message []byte
		reason  byte
	}{
		{enter(2, 0, 2, 0, 0, 0), 'B'}, {enter(2, 'b', 2, 0, 0, 0), 'B'}, {enter(2, 'I', 0, 1, 1, 'D'), 'B'},
		{enter(2, 'B', 2, 0, 0, 0), 'S'}, {enter(2, 'S', 255, 1, 1, 'D'), 'S'},
		{enter(2, 'B', 1, 0, 0, 0), 'P'}, {enter(2, 'S', 0, 11, 1, 'D'), 'P'}, {enter(2, 'S', 0, 256, 1, 'D'), 'P'}, {enter(2, 'S', 0, 65535, 1, 'D'), 'P'},
		{enter(2, 'B', 1, 1, 0, 0), 'Q'}, {enter(2, 'S', 0, 10, 10000, 'D'), 'Q'}, {enter(2, 'S', 0, 10, 65535, 'I'), 'Q'},
		{enter(2, 'B', 1, 10, 1, 0), 'K'}, {enter(2, 'S', 0, 1, 9999, 'd'), 'K'}, {enter(2, 'S', 0, 1, 9999, 'S'), 'K'},
		{enter(2, 'B', 1, 1, 1, 'D'), 'F'}, {enter(2, 'S', 0, 5, 5, 'D'), 'F'},
	} {
		b.Feed(c.message)
		wantAnswers(t, "rejected", b, at(0).rejected(2, c.reason))
		if t.Failed() {
			t.Fatalf("line %d", k)
		}
	}
	for _, m := range [][]byte{enter(1, 0, 2, 0, 0, 0), enter(1, 'S', 0, 1, 1, 'I')} {
		b.Feed(m)
		wantAnswers(t, "the token was accepted", b, at(0).rejected(1, 'D'))
	}
	wantTape(t, "P10: rejected", b, nil)
	wantBook(t, "P10: rejected", b, 0, api.Order{Reference: 1, Token: 1, Side: 'B', Price: 5, Shares: 5})
	// neither the token nor a reference is used by what was rejected
	b.Feed(enter(2, 'B', 0, 1, 1, 'I'))
	wantAnswers(t, "behind rejections", b, list(at(0).accepted(2, 'B', 0, 1, 1, 'I', 2), at(0).canceled(2, 1, 'I')))
}

func TestTokenIsUsedForGood(t *testing.T) {
	b := start(t, 1, 10, 9)
	b.Feed(list(
		enter(1, 'S', 0, 5, 5, 'D'), enter(2, 'B', 0, 5, 5, 'I'), // both are executed
		enter(3, 'S', 0, 5, 5, 'I'),               // at once, in vain
		enter(0, 'S', 0, 5, 5, 'D'), cancel(0, 0), // canceled
		enter(0xffffffff, 'S', 0, 5, 5, 'D'), // rests
	))
	drain(b)
	for _, token := range []int{0, 1, 2, 3, 0xffffffff} {
		b.Feed(enter(token, 'B', 0, 1, 1, 'D'))
		wantOut(t, "the token was accepted", b, at(0).rejected(token, 'D'), nil)
	}
	b.Feed(enter(0x01000000, 'B', 0, 1, 1, 'D'))
	wantAnswers(t, "another token", b, at(0).accepted(0x01000000, 'B', 0, 1, 1, 'D', 6))
}

func TestBoundsOfEnter(t *testing.T) {
	b := start(t, 8, 64, 64)
	b.Feed(enter(0, 'S', 7, 64, 9999, 'D'))
	wantOut(t, "the greatest", b, at(0).accepted(0, 'S', 7, 64, 9999, 'D', 1), at(0).rests(1, 'S', 7, 9999, 64))
	b.Feed(enter(1, 'B', 0, 1, 1, 'D'))
	wantOut(t, "the least", b, at(0).accepted(1, 'B', 0, 1, 1, 'D', 2), at(0).rests(2, 'B', 0, 1, 1))
	b.Feed(enter(2, 'B', 7, 64, 9999, 'D'))
	wantOut(t, "all of it", b, list(at(0).accepted(2, 'B', 7, 64, 9999, 'D', 3), at(0).filled(0, 9999, 64, 1), at(0).filled(2, 9999, 64, 1)), at(0).executed(1, 9999, 1))
	wantBook(t, "all of it", b, 7)
}

func TestMeetByPriceThenAge(t *testing.T) {
	for _, c := range []struct {
		rests, comes byte
		best, worse  int
		limit, out   int // limit: the worst price that the coming order takes; out: one beyond it
	}{{'S', 'B', 3, 5, 5, 6}, {'B', 'S', 8, 6, 6, 5}} {
		b := start(t, 2, 10, 9)
		b.Feed(list(
			enter(1, c.rests, 0, c.worse, 10, 'D'), enter(2, c.rests, 0, c.best, 20, 'D'), enter(3, c.rests, 0, c.worse, 30, 'D'),
			enter(4, c.rests, 0, c.best, 40, 'D'), enter(5, c.rests, 0, c.out, 50, 'D'), enter(6, c.rests, 1, c.best, 60, 'D'),
		))
		drain(b)
		b.Feed(enter(7, c.comes, 0, c.limit, 200, 'D'))
		wantOut(t, "through the book", b, list(
			at(0).accepted(7, c.comes, 0, c.limit, 200, 'D', 7),
			at(0).filled(2, 20, c.best, 1), at(0).filled(7, 20, c.best, 1),
			at(0).filled(4, 40, c.best, 2), at(0).filled(7, 40, c.best, 2),
			at(0).filled(1, 10, c.worse, 3), at(0).filled(7, 10, c.worse, 3),
			at(0).filled(3, 30, c.worse, 4), at(0).filled(7, 30, c.worse, 4),
		), list(
			at(0).executed(2, 20, 1), at(0).executed(4, 40, 2), at(0).executed(1, 10, 3), at(0).executed(3, 30, 4),
			at(0).rests(7, c.comes, 0, 100, c.limit),
		))
		left := []api.Order{{Reference: 7, Token: 7, Side: c.comes, Price: c.limit, Shares: 100}, {Reference: 5, Token: 5, Side: c.rests, Price: c.out, Shares: 50}}
		if c.rests == 'B' {
			left[0], left[1] = left[1], left[0]
		}
		wantBook(t, "what is left", b, 0, left...)
		wantBook(t, "another stock", b, 1, api.Order{Reference: 6, Token: 6, Side: c.rests, Stock: 1, Price: c.best, Shares: 60})
		wantLook(t, "what is left", b, api.View{Resting: 3, Open: true})
	}
}

func TestOrdersThatDoNotCrossRest(t *testing.T) {
	b := start(t, 2, 10, 9)
	b.Feed(list(enter(1, 'B', 0, 4, 5, 'D'), enter(2, 'S', 0, 5, 5, 'D'), enter(3, 'B', 0, 4, 5, 'D'), enter(4, 'S', 1, 4, 5, 'D')))
	wantAnswers(t, "none is filled", b, list(
		at(0).accepted(1, 'B', 0, 4, 5, 'D', 1), at(0).accepted(2, 'S', 0, 5, 5, 'D', 2), at(0).accepted(3, 'B', 0, 4, 5, 'D', 3), at(0).accepted(4, 'S', 1, 4, 5, 'D', 4)))
	wantTape(t, "all rest", b, list(at(0).rests(1, 'B', 0, 5, 4), at(0).rests(2, 'S', 0, 5, 5), at(0).rests(3, 'B', 0, 5, 4), at(0).rests(4, 'S', 1, 5, 4)))
}

func TestFirstOrderKeepsItsPlaceWhenItIsMetInPart(t *testing.T) {
	b := start(t, 1, 10, 9)
	b.Feed(list(enter(1, 'S', 0, 5, 10, 'D'), enter(2, 'S', 0, 5, 10, 'D'), enter(3, 'B', 0, 9, 4, 'D')))
	drain(b)
	wantBook(t, "in part", b, 0, api.Order{Reference: 1, Token: 1, Side: 'S', Price: 5, Shares: 6}, api.Order{Reference: 2, Token: 2, Side: 'S', Price: 5, Shares: 10})
	b.Feed(enter(4, 'B', 0, 5, 7, 'D'))
	wantOut(t, "the rest of it", b,
		list(at(0).accepted(4, 'B', 0, 5, 7, 'D', 4), at(0).filled(1, 6, 5, 2), at(0).filled(4, 6, 5, 2), at(0).filled(2, 1, 5, 3), at(0).filled(4, 1, 5, 3)),
		list(at(0).executed(1, 6, 2), at(0).executed(2, 1, 3)))
	wantBook(t, "the rest of it", b, 0, api.Order{Reference: 2, Token: 2, Side: 'S', Price: 5, Shares: 9})
}

func TestAtOnce(t *testing.T) {
	b := start(t, 1, 10, 9)
	b.Feed(enter(1, 'S', 0, 5, 10, 'D'))
	drain(b)
	b.Feed(enter(2, 'B', 0, 4, 7, 'I'))
	wantOut(t, "in vain", b, list(at(0).accepted(2, 'B', 0, 4, 7, 'I', 2), at(0).canceled(2, 7, 'I')), nil)
	b.Feed(enter(3, 'B', 0, 5, 4, 'I'))
	wantOut(t, "nothing is left", b, list(at(0).accepted(3, 'B', 0, 5, 4, 'I', 3), at(0).filled(1, 4, 5, 1), at(0).filled(3, 4, 5, 1)), at(0).executed(1, 4, 1))
	b.Feed(enter(4, 'B', 0, 5, 9, 'I'))
	wantOut(t, "some is left", b, list(at(0).accepted(4, 'B', 0, 5, 9, 'I', 4), at(0).filled(1, 6, 5, 2), at(0).filled(4, 6, 5, 2), at(0).canceled(4, 3, 'I')), at(0).executed(1, 6, 2))
	wantBook(t, "none rests", b, 0)
}

func TestFullPool(t *testing.T) {
	b := start(t, 2, 10, 2)
	b.Feed(list(enter(1, 'S', 0, 5, 10, 'D'), enter(2, 'S', 1, 5, 10, 'D')))
	drain(b)
	b.Feed(enter(3, 'B', 0, 5, 10, 'D'))
	wantOut(t, "a day order, even one that would not rest", b, at(0).rejected(3, 'F'), nil)
	b.Feed(enter(3, 'B', 0, 5, 4, 'I'))
	wantOut(t, "one at once", b, list(at(0).accepted(3, 'B', 0, 5, 4, 'I', 3), at(0).filled(1, 4, 5, 1), at(0).filled(3, 4, 5, 1)), at(0).executed(1, 4, 1))
	b.Feed(cancel(1, 1))
	drain(b)
	b.Feed(enter(4, 'S', 0, 5, 10, 'D'))
	wantOut(t, "some shares are no order", b, at(0).rejected(4, 'F'), nil)
	b.Feed(cancel(1, 0))
	drain(b)
	b.Feed(enter(4, 'B', 1, 5, 11, 'D'))
	wantOut(t, "there is room again", b, list(at(0).accepted(4, 'B', 1, 5, 11, 'D', 4), at(0).filled(2, 10, 5, 2), at(0).filled(4, 10, 5, 2)), list(at(0).executed(2, 10, 2), at(0).rests(4, 'B', 1, 1, 5)))
	wantLook(t, "there is room again", b, api.View{Resting: 1, Open: true})
}

func TestPoolOfEverySize(t *testing.T) {
	for pool := 1; pool <= api.MaxPool; pool++ {
		b := start(t, 8, 64, pool)
		for k := range pool {
			b.Feed(enter(k, 'B', k%8, 1+k%64, 1, 'D'))
		}
		wantLook(t, "the pool is full", b, api.View{Resting: pool, Open: true})
		drain(b)
		b.Feed(enter(pool, 'B', 0, 1, 1, 'D'))
		wantOut(t, "the pool is full", b, at(0).rejected(pool, 'F'), nil)
	}
}

func TestCancelThatDoesNothing(t *testing.T) {
	b := start(t, 1, 10, 9)
	b.Feed(list(enter(1, 'S', 0, 5, 10, 'D'), enter(2, 'B', 0, 6, 4, 'I'), enter(3, 'B', 0, 1, 4, 'I')))
	drain(b)
	for _, m := range [][]byte{cancel(9, 0), cancel(0, 0), cancel(2, 0), cancel(3, 0), cancel(1, 6), cancel(1, 10), cancel(1, 7), cancel(1, 65535)} {
		b.Feed(m)
		wantOut(t, "nothing", b, nil, nil)
	}
	wantBook(t, "nothing", b, 0, api.Order{Reference: 1, Token: 1, Side: 'S', Price: 5, Shares: 6})
}

func TestCancel(t *testing.T) {
	b := start(t, 1, 10, 9)
	b.Feed(list(enter(1, 'B', 0, 5, 10, 'D'), enter(2, 'B', 0, 5, 9999, 'D'), enter(3, 'B', 0, 5, 10, 'D')))
	drain(b)
	b.Feed(cancel(1, 9))
	wantOut(t, "one share", b, at(0).canceled(1, 1, 'U'), at(0).lessened(1, 1))
	b.Feed(cancel(2, 1))
	wantOut(t, "all but one", b, at(0).canceled(2, 9998, 'U'), at(0).lessened(2, 9998))
	wantBook(t, "they keep their places", b, 0,
		api.Order{Reference: 1, Token: 1, Side: 'B', Price: 5, Shares: 9}, api.Order{Reference: 2, Token: 2, Side: 'B', Price: 5, Shares: 1}, api.Order{Reference: 3, Token: 3, Side: 'B', Price: 5, Shares: 10})
	b.Feed(cancel(2, 0))
	wantOut(t, "the last share", b, at(0).canceled(2, 1, 'U'), at(0).gone(2))
	b.Feed(cancel(2, 0))
	wantOut(t, "once more", b, nil, nil)
	b.Feed(enter(4, 'S', 0, 5, 19, 'D'))
	wantOut(t, "the others meet", b,
		list(at(0).accepted(4, 'S', 0, 5, 19, 'D', 4), at(0).filled(1, 9, 5, 1), at(0).filled(4, 9, 5, 1), at(0).filled(3, 10, 5, 2), at(0).filled(4, 10, 5, 2)),
		list(at(0).executed(1, 9, 1), at(0).executed(3, 10, 2)))
	wantLook(t, "none rests", b, api.View{Open: true})
}

package bourse_test

import (
	"bytes"
	"math/rand/v2"
	"slices"
	"testing"

	"bourse/api"
	"bourse/bourse"
)

func wantBuild(t *testing.T, what string, tape []byte, want ...api.Order) {
	t.Helper()
	if got, place, e := bourse.Build(tape); e != api.OK || place != 0 || !slices.Equal(got, want) {
		t.Errorf("P6: %s:\n got %+v, %d, %d\nwant %+v", what, got, place, e, want)
	}
}

func wantRefused(t *testing.T, what string, tape []byte, want int) {
	t.Helper()
	if got, place, e := bourse.Build(tape); e != api.ErrTape || place != want || got != nil {
		t.Errorf("P6: %s: %+v, %d, %d, want it refused at %d", what, got, place, e, want)
	}
}

// rest is an order as Build tells it.
func rest(reference int, side byte, stock, price, shares int) api.Order {
	return api.Order{Reference: reference, Side: side, Stock: stock, Price: price, Shares: shares}
}

func TestBuildOfAnEmptyTape(t *testing.T) {
	wantBuild(t, "nil", nil)
	wantBuild(t, "no bytes", []byte{})
	wantBuild(t, "spare room alone", list(at(0).rests(1, 'B', 0, 1, 1))[:0])
}

func TestBuildOfTheExample(t *testing.T) {
	var tape []byte
	for _, step := range []struct {
		message []byte
		want    []api.Order
	}{
		{at(0).rests(1, 'S', 0, 100, 5), []api.Order{rest(1, 'S', 0, 5, 100)}},
		{at(0).executed(1, 30, 1), []api.Order{rest(1, 'S', 0, 5, 70)}},
		{at(0).lessened(1, 20), []api.Order{rest(1, 'S', 0, 5, 50)}},
		{at(0).swapped(1, 3, 50, 4), []api.Order{rest(3, 'S', 0, 4, 50)}},
		{at(0).gone(3), nil},
	} {
		tape = append(tape, step.message...)
		wantBuild(t, "the document's example", tape, step.want...)
	}
}

func TestBuildTellsByStocksSidesPricesAndAge(t *testing.T) {
	now := at(7)
	wantBuild(t, "orders of all kinds", list(
		now.rests(1, 'S', 9, 1, 5), now.rests(2, 'S', 2, 2, 9), now.rests(3, 'S', 2, 3, 8), now.rests(4, 'B', 2, 4, 3),
		now.rests(5, 'B', 2, 5, 4), now.rests(9, 'S', 2, 6, 8), now.rests(8, 'B', 2, 7, 4), now.rests(7, 'B', 0, 8, 1),
		now.rests(6, 'S', 2, 9, 8), now.rests(10, 'B', 2, 10, 256), now.rests(11, 'S', 2, 11, 256), now.rests(12, 'B', 9, 12, 5),
	),
		rest(7, 'B', 0, 1, 8),
		rest(10, 'B', 2, 256, 10), rest(5, 'B', 2, 4, 5), rest(8, 'B', 2, 4, 7), rest(4, 'B', 2, 3, 4),
		rest(3, 'S', 2, 8, 3), rest(9, 'S', 2, 8, 6), rest(6, 'S', 2, 8, 9), rest(2, 'S', 2, 9, 2), rest(11, 'S', 2, 256, 11),
		rest(12, 'B', 9, 5, 12), rest(1, 'S', 9, 5, 1),
	)
}

// TestBuildKeepsTheAgeOfMany: with so many, a sort that is not stable would show.
func TestBuildKeepsTheAgeOfMany(t *testing.T) {
	var tape []byte
	var buy, sell []api.Order
	for k := range 500 {
		reference := 100000 - k
		side := "BS"[k%2]
		tape = append(tape, at(0).rests(reference, side, 0, 1, 5)...)
		if side == 'B' {
			buy = append(buy, rest(reference, 'B', 0, 5, 1))
		} else {
			sell = append(sell, rest(reference, 'S', 0, 5, 1))
		}
	}
	wantBuild(t, "many of one price", tape, slices.Concat(buy, sell)...)
}

func TestBuildTakesAnyNumbers(t *testing.T) {
	const most = 1<<48 - 1
	for _, time := range []at{0, 1, most} {
		for _, reference := range []int{0, 1, 0x01020304, 1<<32 - 1} {
			for _, stock := range []int{0, 7, 8, 255} {
				for _, price := range []int{0, 1, 64, 65, 256, 65535} {
					for _, shares := range []int{1, 9999, 10000, 65535} {
						wantBuild(t, "any numbers", time.rests(reference, 'B', stock, shares, price), rest(reference, 'B', stock, price, shares))
					}
				}
			}
		}
	}
	wantBuild(t, "times that fall, matches that come again", list(
		at(most).rests(5, 'S', 0, 65535, 0), at(3).executed(5, 1, 1<<32-1), at(2).executed(5, 1, 1<<32-1), at(1).executed(5, 1, 0), at(0).lessened(5, 2),
	), rest(5, 'S', 0, 0, 65530))
	wantBuild(t, "a replacement of any numbers", list(at(9).rests(5, 'S', 0, 1, 1), at(8).swapped(5, 0, 65535, 65535)), rest(0, 'S', 0, 65535, 65535))
	wantBuild(t, "and the least", list(at(9).rests(5, 'S', 255, 9, 1), at(8).swapped(5, 1<<32-1, 1, 0)), rest(1<<32-1, 'S', 255, 0, 1))
}

func TestBuildLetsOrdersCross(t *testing.T) {
	now := at(0)
	wantBuild(t, "nothing meets on a tape", list(now.rests(1, 'S', 0, 5, 3), now.rests(2, 'B', 0, 5, 4), now.swapped(1, 3, 5, 1)),
		rest(2, 'B', 0, 4, 5), rest(3, 'S', 0, 1, 5))
	wantBuild(t, "nor must it be the first that is executed", list(now.rests(1, 'S', 0, 5, 3), now.rests(2, 'S', 0, 5, 3), now.executed(2, 5, 1)), rest(1, 'S', 0, 3, 5))
}

func TestBuildOfLessShares(t *testing.T) {
	now := at(0)
	two := list(now.rests(1, 'S', 0, 9, 5), now.rests(2, 'S', 0, 300, 5))
	second := rest(2, 'S', 0, 5, 300)
	wantBuild(t, "e of one", list(two, now.executed(1, 1, 1)), rest(1, 'S', 0, 5, 8), second)
	wantBuild(t, "e of all but one", list(two, now.executed(1, 8, 1)), rest(1, 'S', 0, 5, 1), second)
	wantBuild(t, "e of all", list(two, now.executed(1, 9, 1)), second)
	wantBuild(t, "e of all that is left", list(two, now.executed(1, 4, 1), now.lessened(1, 2), now.executed(1, 3, 2)), second)
	wantBuild(t, "x of one", list(two, now.lessened(1, 1)), rest(1, 'S', 0, 5, 8), second)
	wantBuild(t, "x of all but one", list(two, now.lessened(1, 8)), rest(1, 'S', 0, 5, 1), second)
	wantBuild(t, "x of more than a byte", list(two, now.lessened(2, 299)), rest(1, 'S', 0, 5, 9), rest(2, 'S', 0, 5, 1))
	wantBuild(t, "d", list(two, now.gone(2)), rest(1, 'S', 0, 5, 9))
	wantBuild(t, "d of what is left", list(two, now.lessened(1, 8), now.gone(1)), second)
	wantBuild(t, "d of both", list(two, now.gone(1), now.gone(2)))
}

func TestBuildTakesAReferenceAgain(t *testing.T) {
	now := at(0)
	first, second := now.rests(1, 'S', 0, 9, 5), now.rests(2, 'S', 0, 3, 5)
	for _, away := range [][]byte{now.gone(1), now.executed(1, 9, 1), now.swapped(1, 3, 9, 6)} {
		tape := list(first, second, away, now.rests(1, 'S', 0, 4, 5))
		want := []api.Order{rest(2, 'S', 0, 5, 3), rest(1, 'S', 0, 5, 4)}
		if away[0] == 'u' {
			want = append(want, rest(3, 'S', 0, 6, 9))
		}
		wantBuild(t, "it comes again, behind the others", tape, want...)
	}
	wantBuild(t, "a replacement takes one that is gone", list(first, second, now.gone(1), now.swapped(2, 1, 3, 5)), rest(1, 'S', 0, 5, 3))
	wantBuild(t, "two change references", list(first, second, now.swapped(1, 3, 9, 5), now.swapped(2, 1, 3, 5), now.swapped(3, 2, 9, 5)),
		rest(2, 'S', 0, 5, 9), rest(1, 'S', 0, 5, 3))
}

func TestBuildPutsAReplacementAsReplaceDoes(t *testing.T) {
	now := at(0)
	for _, side := range []byte{'B', 'S'} {
		three := list(now.rests(1, side, 3, 10, 5), now.rests(2, side, 3, 10, 5), now.rests(3, side, 3, 10, 5))
		for _, to := range []int{1, 2, 3, 9} { // itself, and another one
			for which := 1; which <= 3; which++ {
				if to != which && to != 9 {
					continue
				}
				for _, c := range []struct {
					shares int
					keeps  bool
				}{{1, true}, {9, true}, {10, true}, {11, false}, {65535, false}} {
					var want []api.Order
					for reference := 1; reference <= 3; reference++ {
						if reference != which {
							want = append(want, rest(reference, side, 3, 5, 10))
						}
					}
					place := 2
					if c.keeps {
						place = which - 1
					}
					want = slices.Insert(want, place, rest(to, side, 3, 5, c.shares))
					wantBuild(t, "u at the same price", list(three, now.swapped(which, to, c.shares, 5)), want...)
				}
			}
		}
	}
}

func TestBuildPutsAReplacementAtAnotherPrice(t *testing.T) {
	now := at(0)
	tape := list(now.rests(1, 'B', 0, 10, 5), now.rests(2, 'B', 0, 10, 5), now.rests(3, 'B', 0, 10, 4), now.rests(4, 'B', 1, 10, 4))
	other := rest(4, 'B', 1, 4, 10)
	wantBuild(t, "a lower one", list(tape, now.swapped(1, 9, 1, 4)), rest(2, 'B', 0, 5, 10), rest(3, 'B', 0, 4, 10), rest(9, 'B', 0, 4, 1), other)
	wantBuild(t, "a higher one", list(tape, now.swapped(3, 3, 10, 5)), rest(1, 'B', 0, 5, 10), rest(2, 'B', 0, 5, 10), rest(3, 'B', 0, 5, 10), other)
	wantBuild(t, "there and back", list(tape, now.swapped(1, 9, 10, 6), now.swapped(9, 1, 10, 5)), rest(2, 'B', 0, 5, 10), rest(1, 'B', 0, 5, 10), rest(3, 'B', 0, 4, 10), other)
	wantBuild(t, "then less", list(tape, now.swapped(1, 9, 10, 4), now.swapped(9, 10, 9, 4), now.swapped(3, 11, 10, 4)),
		rest(2, 'B', 0, 5, 10), rest(11, 'B', 0, 4, 10), rest(10, 'B', 0, 4, 9), other)
}

func TestBuildPutsAReplacementByWhatIsLeft(t *testing.T) {
	now := at(0)
	two := list(now.rests(1, 'S', 0, 10, 5), now.rests(2, 'S', 0, 10, 5))
	second := rest(2, 'S', 0, 5, 10)
	for _, less := range [][]byte{now.executed(1, 4, 1), now.lessened(1, 4), now.swapped(1, 1, 6, 5)} {
		wantBuild(t, "as many as are left", list(two, less, now.swapped(1, 9, 6, 5)), rest(9, 'S', 0, 5, 6), second)
		wantBuild(t, "a share more than is left", list(two, less, now.swapped(1, 9, 7, 5)), second, rest(9, 'S', 0, 5, 7))
		wantBuild(t, "as many as came", list(two, less, now.swapped(1, 9, 10, 5)), second, rest(9, 'S', 0, 5, 10))
	}
}

func TestBuildRefusesMessages(t *testing.T) {
	now := at(5)
	good := list(now.rests(1, 'S', 2, 9, 5), now.rests(2, 'B', 2, 300, 4), now.rests(3, 'B', 2, 1, 4), now.gone(3))
	for _, c := range []struct {
		what    string
		message []byte
	}{
		{"a of one that rests", now.rests(1, 'S', 2, 9, 5)}, {"a of one that rests elsewhere", now.rests(1, 'B', 7, 1, 1)},
		{"a of no side", now.rests(9, 'x', 2, 9, 5)}, {"a of side 0", now.rests(9, 0, 2, 9, 5)},
		{"a of a small letter", now.rests(9, 'b', 2, 9, 5)}, {"a of a small letter", now.rests(9, 's', 2, 9, 5)},
		{"a of 0 shares", now.rests(9, 'B', 2, 0, 5)},
		{"e of one that never came", now.executed(9, 1, 1)}, {"e of one that is gone", now.executed(3, 1, 1)}, {"e of reference 0", now.executed(0, 1, 1)},
		{"e of no shares", now.executed(1, 0, 1)}, {"e of one more", now.executed(1, 10, 1)}, {"e of many more", now.executed(2, 65535, 1)},
		{"e of a byte more", now.executed(1, 256+9, 1)}, {"e of no shares, of none", now.executed(9, 0, 1)},
		{"x of one that never came", now.lessened(9, 1)}, {"x of one that is gone", now.lessened(3, 1)}, {"x of reference 0", now.lessened(0, 1)},
		{"x of no shares", now.lessened(1, 0)}, {"x of all", now.lessened(1, 9)}, {"x of all", now.lessened(2, 300)},
		{"x of one more", now.lessened(1, 10)}, {"x of many more", now.lessened(2, 65535)}, {"x of no shares, of none", now.lessened(9, 0)},
		{"d of one that never came", now.gone(9)}, {"d of one that is gone", now.gone(3)}, {"d of reference 0", now.gone(0)},
		{"d of a reference of other bytes", now.gone(0x01000000)}, {"d of a reference of other bytes", now.gone(0x00010001)},
		{"u of one that never came", now.swapped(9, 10, 1, 5)}, {"u of one that is gone", now.swapped(3, 10, 1, 5)}, {"u of none to itself", now.swapped(9, 9, 1, 5)},
		{"u of none to one that rests", now.swapped(9, 1, 1, 5)}, {"u of reference 0", now.swapped(0, 10, 1, 5)},
		{"u to one that rests", now.swapped(1, 2, 1, 5)}, {"u to one that rests", now.swapped(2, 1, 1, 4)},
		{"u of 0 shares", now.swapped(1, 10, 0, 5)}, {"u to itself, of 0 shares", now.swapped(1, 1, 0, 5)},
	} {
		tape := list(good, c.message)
		wantRefused(t, c.what, tape, len(good))
		wantRefused(t, c.what+", with more behind it", list(tape, now.rests(50, 'B', 0, 1, 1), c.message, []byte{'?'}), len(good))
		if c.message[0] != 'a' || c.message[10] != 1 {
			wantRefused(t, c.what+", at the beginning", list(c.message, good), 0)
		}
	}
	wantBuild(t, "what stands ahead", good, rest(2, 'B', 2, 4, 300), rest(1, 'S', 2, 5, 9))
}

func TestBuildRefusesWhatIsNoLonger(t *testing.T) {
	now := at(0)
	first := now.rests(1, 'S', 0, 9, 5)
	for _, away := range [][]byte{now.gone(1), now.executed(1, 9, 1), now.swapped(1, 2, 9, 5), now.swapped(1, 2, 10, 5), now.swapped(1, 2, 9, 6)} {
		tape := list(first, away)
		for _, again := range [][]byte{now.gone(1), now.executed(1, 1, 2), now.lessened(1, 1), now.swapped(1, 7, 1, 5)} {
			wantRefused(t, "it rests no more", list(tape, again), len(tape))
		}
	}
	for _, swap := range [][]byte{now.swapped(1, 2, 4, 5), now.swapped(1, 2, 4, 6)} {
		tape := list(first, swap)
		wantRefused(t, "the new one has its own shares", list(tape, now.executed(2, 5, 1)), len(tape))
		wantRefused(t, "the new one rests", list(tape, now.rests(2, 'S', 0, 9, 5)), len(tape))
	}
	left := list(first, now.executed(1, 4, 1), now.lessened(1, 3))
	wantRefused(t, "two are left", list(left, now.executed(1, 3, 2)), len(left))
	wantRefused(t, "two are left", list(left, now.lessened(1, 2)), len(left))
	wantBuild(t, "two are left", list(left, now.executed(1, 2, 2)))
}

func TestBuildRefusesLetters(t *testing.T) {
	now := at(0)
	good := now.rests(1, 'S', 0, 9, 5)
	for letter := range 256 {
		if bytes.IndexByte([]byte("aexdu"), byte(letter)) >= 0 {
			continue
		}
		wantRefused(t, "a letter alone", []byte{byte(letter)}, 0)
		wantRefused(t, "another letter", append([]byte{byte(letter)}, make([]byte, 40)...), 0)
		wantRefused(t, "another letter behind a message", list(good, []byte{byte(letter)}, good), len(good))
	}
	wantRefused(t, "answers", list(now.opened(), good), 0)
}

func TestBuildRefusesCutMessages(t *testing.T) {
	now := at(0)
	good := now.rests(1, 'S', 0, 9, 5)
	for _, m := range [][]byte{now.rests(2, 'S', 0, 9, 5), now.executed(1, 1, 1), now.lessened(1, 1), now.gone(1), now.swapped(1, 2, 1, 1)} {
		tape := list(good, m)
		if _, _, e := bourse.Build(tape); e != api.OK {
			t.Errorf("P6: the whole message %c: %d", m[0], e)
		}
		for n := 1; n < len(m); n++ {
			wantRefused(t, "cut", tape[:len(good)+n:len(good)+n], len(good))
			wantRefused(t, "cut, the rest in the spare room", tape[:len(good)+n], len(good))
			wantRefused(t, "cut, at the beginning", m[:n], 0)
		}
	}
}

func TestBuildNeitherWritesNorKeeps(t *testing.T) {
	b := start(t, 2, 10, 9)
	b.Feed(list(session()...))
	told, book := b.Tape(), slices.Concat(allBooks(b, 1)...)
	room := bytes.Repeat([]byte{0x55}, len(told)+100)
	tape := room[50 : 50+copy(room[50:], told)]
	before := slices.Clone(room)
	got, place, e := bourse.Build(tape)
	wantBytes(t, "P2: the tape that was handed in", room, before)
	if len(got) == 0 || place != 0 || e != api.OK {
		t.Fatalf("%+v, %d, %d", got, place, e)
	}
	want := slices.Clone(got)
	overwrite(room)
	if !slices.Equal(got, want) {
		t.Errorf("P2: the tape was written over: %+v, want %+v", got, want)
	}
	overwriteOrders(got)
	wantBuild(t, "P2: the orders were written over", told, want...)
	wantBook(t, "P2: the bourse has nothing to do with it", b, 0, book...)
}

// follower does the same as Build in the plainest way: one list of all orders, as they came.
type follower struct{ resting []api.Order }

func (f *follower) find(reference int) int {
	return slices.IndexFunc(f.resting, func(o api.Order) bool { return o.Reference == reference })
}

func (f *follower) take(m []byte) bool {
	k := f.find(number(m[7:11]))
	if m[0] == 'a' {
		o := rest(number(m[7:11]), m[11], int(m[12]), number(m[15:17]), number(m[13:15]))
		if k >= 0 || o.Side != 'B' && o.Side != 'S' || o.Shares == 0 {
			return false
		}
		f.resting = append(f.resting, o)
		return true
	}
	if k < 0 {
		return false
	}
	o := f.resting[k]
	switch m[0] {
	case 'e', 'x':
		n := number(m[11:13])
		if n == 0 || n > o.Shares || n == o.Shares && m[0] == 'x' {
			return false
		}
		f.resting[k].Shares -= n
	case 'd':
		f.resting[k].Shares = 0
	case 'u':
		return f.swap(k, number(m[11:15]), number(m[15:17]), number(m[17:19]))
	}
	f.resting = slices.DeleteFunc(f.resting, func(o api.Order) bool { return o.Shares == 0 })
	return true
}

func (f *follower) swap(k, reference, shares, price int) bool {
	if other := f.find(reference); other >= 0 && other != k || shares == 0 {
		return false
	}
	old := f.resting[k]
	o := rest(reference, old.Side, old.Stock, price, shares)
	f.resting[k] = o
	if price != old.Price || shares > old.Shares {
		f.resting = append(slices.Delete(f.resting, k, k+1), o)
	}
	return true
}

func (f *follower) books() []api.Order {
	m := model{resting: f.resting}
	var all []api.Order
	for stock := range 256 {
		all = append(all, m.book(stock)...)
	}
	return all
}

// anyMessage has small numbers: so most of them may be, and some may not.
func anyMessage(r *rand.Rand) []byte {
	now, reference, shares, price := at(r.IntN(1<<48)), r.IntN(12), r.IntN(8), r.IntN(3)
	switch r.IntN(9) {
	case 0:
		return now.executed(reference, shares, r.IntN(1<<32))
	case 1:
		return now.lessened(reference, shares)
	case 2:
		return now.gone(reference)
	case 3, 4, 5:
		return now.swapped(reference, r.IntN(12), shares, price)
	}
	return now.rests(reference, "BSBSBSBSBSx"[r.IntN(11)], r.IntN(2)*255, shares+r.IntN(20), price)
}

func TestBuildAgainstFollower(t *testing.T) {
	for seed := range uint64(100) {
		r := rand.New(rand.NewPCG(seed, 6))
		f := &follower{}
		var tape []byte
		refused := 0
		for range 150 {
			m := anyMessage(r)
			with := list(tape, m)
			if !f.take(m) {
				refused++
				wantRefused(t, "as the follower", with, len(tape))
				continue
			}
			tape = with
			wantBuild(t, "as the follower", tape, f.books()...)
			if t.Failed() {
				t.Fatalf("seed %d", seed)
			}
		}
		if refused < 20 || refused > 130 {
			t.Errorf("seed %d: %d refused", seed, refused)
		}
	}
}

// TestBuildOfTheWholeTape: P8, behind each message.
func TestBuildOfTheWholeTape(t *testing.T) {
	letters := map[byte]int{}
	for seed := range uint64(20) {
		r := rand.New(rand.NewPCG(seed, 7))
		stocks, levels, pool := 1+r.IntN(8), []int{1, 5, 10, 64}[r.IntN(4)], []int{1, 10, 64}[r.IntN(3)]
		m := &model{stocks: stocks, levels: levels, pool: pool}
		b := start(t, stocks, levels, pool)
		var tape []byte
		for range 200 {
			b.Feed(m.next(r))
			b.Tick(r.IntN(api.MaxTick))
			told := b.Tape()
			for _, m := range split(t, told) {
				letters[m[0]]++
			}
			tape = append(tape, told...)
			want := slices.Concat(allBooks(b, stocks)...)
			for k := range want {
				want[k].Token = 0
			}
			wantBuild(t, "P8: the whole tape", tape, want...)
		}
		if t.Failed() {
			t.Fatalf("seed %d", seed)
		}
	}
	for _, letter := range []byte("aexdu") {
		if letters[letter] < 20 {
			t.Errorf("too few %c on the tapes: %d", letter, letters[letter])
		}
	}
}

// TestBuildOfAnyBytes: P1: noise, and tapes of which one byte is another one.
func TestBuildOfAnyBytes(t *testing.T) {
	b := start(t, 2, 10, 9)
	b.Feed(list(session()...))
	tape := b.Tape()
	for k := range tape {
		for c := range 256 {
			other := slices.Clone(tape)
			other[k] = byte(c)
			wantSound(t, other)
		}
	}
	r := rand.New(rand.NewPCG(1, 8))
	for range 20000 {
		var noise []byte
		for range r.IntN(60) {
			noise = append(noise, "aexdu\x00\x00\x00\x00\x01BS\xff"[r.IntN(13)])
		}
		wantSound(t, noise)
	}
}

// wantSound: what stands ahead of the place of a fault is a tape, and with the message at it it is none.
func wantSound(t *testing.T, tape []byte) {
	t.Helper()
	l, place, e := bourse.Build(tape)
	switch {
	case e == api.OK && place == 0:
	case e == api.ErrTape && l == nil && place >= 0 && place < len(tape):
		if _, _, e := bourse.Build(tape[:place]); e != api.OK {
			t.Errorf("P6: % x: refused at %d, but a fault stands ahead of it", tape, place)
		}
	default:
		t.Errorf("P1: % x: %+v, %d, %d", tape, l, place, e)
	}
}

// TestBuildOfALongTape: many orders rest at one price, and leave again, the youngest first.
func TestBuildOfALongTape(t *testing.T) {
	const count = 100000
	var tape []byte
	for k := range count {
		tape = append(tape, at(k).rests(k, 'B', 0, 2, 5)...)
		tape = append(tape, at(k).swapped(k, count+k, 3, 5)...)
	}
	if l, _, e := bourse.Build(tape); e != api.OK || len(l) != count || l[0].Reference != count || l[count-1].Reference != 2*count-1 {
		t.Fatalf("P6: a long tape: %d orders, %d", len(l), e)
	}
	for k := count - 1; k > 0; k-- {
		tape = append(tape, at(0).gone(count+k)...)
	}
	wantBuild(t, "a long tape", tape, rest(count, 'B', 0, 5, 3))
}

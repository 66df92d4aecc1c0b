package bourse_test

import (
	"bytes"
	"slices"
	"testing"

	"bourse/api"
	"bourse/bourse"
)

// session is a stream with all kinds of what goes out, but for the closing.
func session() [][]byte {
	return [][]byte{
		enter(1, 'S', 0, 5, 100, 'D'), enter(2, 'S', 0, 6, 50, 'D'), enter(3, 'B', 0, 5, 30, 'I'), cancel(1, 50), enter(1, 'B', 0, 1, 1, 'D'),
		enter(4, 'B', 1, 3, 7, 'D'), replace(99, 98, 1, 1), cancel(2, 0), enter(5, 'B', 0, 7, 90, 'D'), enter(6, 'B', 0, 7, 5, 'D'),
		replace(4, 7, 4, 8), replace(7, 7, 4, 8), enter(8, 'S', 0, 9, 50, 'D'), replace(8, 9, 6, 50), replace(6, 10, 2, 5),
	}
}

func overwrite(l []byte) {
	l = l[:cap(l)]
	for k := range l {
		l[k] = 0xEE
	}
}

func overwriteOrders(l []api.Order) {
	l = l[:cap(l)]
	for k := range l {
		l[k] = api.Order{Reference: -1, Side: '!'}
	}
}

func TestFeedNeitherWritesNorKeeps(t *testing.T) {
	a, b := start(t, 2, 10, 9), start(t, 2, 10, 9)
	all := list(session()...)
	a.Feed(all)
	for cut := 0; cut < len(all); cut += 5 {
		room := bytes.Repeat([]byte{0x55}, 40)
		n := copy(room[10:15], all[cut:])
		before := slices.Clone(room)
		b.Feed(room[10 : 10+n])
		wantBytes(t, "P2: the list that was handed in", room, before)
		overwrite(room)
	}
	wantOut(t, "P2: what was handed in is written over", b, a.Answers(), a.Tape())
}

func TestAnswersAreTheCallers(t *testing.T) {
	a, b := start(t, 2, 10, 9), start(t, 2, 10, 9)
	for _, m := range session() {
		a.Feed(m)
		b.Feed(m)
		answers, tape := b.Answers(), b.Tape()
		wantBytes(t, "P2: answers", answers, a.Answers())
		wantBytes(t, "P2: tape", tape, a.Tape())
		overwrite(answers)
		overwrite(tape)
		for stock := range 2 {
			l, _ := b.Book(stock)
			overwriteOrders(l)
			want, _ := a.Book(stock)
			wantBook(t, "P2: the book was written over", b, stock, want...)
		}
	}
}

func TestAnswersStayAsTheyAre(t *testing.T) {
	b := start(t, 2, 10, 9)
	var told, copies [][]byte
	book, _ := b.Book(0)
	for _, m := range session() {
		b.Feed(m)
		for _, l := range [][]byte{b.Answers(), b.Tape()} {
			told = append(told, l)
			copies = append(copies, slices.Clone(l))
		}
		if len(book) == 0 {
			book, _ = b.Book(0)
		}
	}
	for k := range told {
		wantBytes(t, "P2: what was told before", told[k], copies[k])
	}
	if want := (api.Order{Reference: 1, Token: 1, Side: 'S', Price: 5, Shares: 100}); len(book) != 1 || book[0] != want {
		t.Errorf("P2: a book that was told before: %+v", book)
	}
}

func TestBoursesHaveNothingToDoWithEachOther(t *testing.T) {
	alone := start(t, 2, 10, 9)
	a, b := start(t, 2, 10, 9), start(t, 2, 10, 9)
	for _, m := range session() {
		alone.Feed(m)
		a.Feed(m)
		b.Feed(enter(1000+int(m[4]), 'B', 0, 10, 9, 'D'))
		b.Tick(1)
	}
	b.Feed([]byte{0})
	wantLook(t, "P2: beside another bourse", a, alone.Look())
	wantOut(t, "P2: beside another bourse", a, alone.Answers(), alone.Tape())
}

func TestLooksChangeNothing(t *testing.T) {
	a, b := start(t, 2, 10, 9), start(t, 2, 10, 9)
	for _, m := range session() {
		for k := range m {
			a.Feed(m[k : k+1])
			b.Feed(m[k : k+1])
			b.Look()
			b.Book(0)
			b.Book(-1)
			b.Tick(-1)
			bourse.New(0, 0, 0)
		}
	}
	wantLook(t, "P1, P2: Look, Book and refused calls", b, a.Look())
	wantOut(t, "P1, P2: Look, Book and refused calls", b, a.Answers(), a.Tape())
}

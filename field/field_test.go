package field

import (
	"bytes"
	"testing"
)

type named uint16 // a type of one's own is a number too

func TestPutHighestByteFirst(t *testing.T) {
	got := Put([]byte{9}, uint8(0xab))
	got = Put(got, uint16(0x0102))
	got = Put(got, named(0xfffe))
	got = Put(got, uint32(0x80000001))
	got = Put(got, uint64(0x0102030405060708))
	want := []byte{9, 0xab, 1, 2, 0xff, 0xfe, 0x80, 0, 0, 1, 1, 2, 3, 4, 5, 6, 7, 8}
	if !bytes.Equal(got, want) {
		t.Errorf("% x, want % x", got, want)
	}
}

func TestPutLow(t *testing.T) {
	for _, c := range []struct {
		n    uint64
		size int
		want []byte
	}{
		{0, 6, []byte{0, 0, 0, 0, 0, 0}},
		{1<<48 - 1, 6, []byte{255, 255, 255, 255, 255, 255}},
		{0x0102030405060708, 6, []byte{3, 4, 5, 6, 7, 8}},
		{5, 0, nil},
	} {
		if got := PutLow(nil, c.n, c.size); !bytes.Equal(got, c.want) {
			t.Errorf("%x in %d: % x, want % x", c.n, c.size, got, c.want)
		}
	}
}

func takes[N Unsigned](t *testing.T, n N) {
	t.Helper()
	got, behind := Take[N](append(Put(nil, n), 7, 8))
	if got != n || !bytes.Equal(behind, []byte{7, 8}) {
		t.Errorf("%d, behind it % x, want %d", got, behind, n)
	}
}

func TestTakeWhatWasPut(t *testing.T) {
	for _, n := range []uint64{0, 1, 0x7f, 0x80, 0xff, 0x1234, 0x8000, 0xffff, 0x12345678, 0xffffffff, 0x123456789abcdef0, 1<<64 - 1} {
		takes(t, uint8(n))
		takes(t, uint16(n))
		takes(t, named(n))
		takes(t, uint32(n))
		takes(t, n)
	}
}

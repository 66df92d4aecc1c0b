package bourse

import (
	"bourse/api"
	"bourse/field"
)

// What comes: the letters, and how an order's kinds are told.
const (
	letterEnter   = 'E'
	letterReplace = 'R'
	letterCancel  = 'C'

	kindDay  = 'D'
	kindOnce = 'I'
)

// inbox gathers one message, however the stream is cut.
type inbox struct {
	bytes [api.ReplaceBytes]byte // the longest one
	have  int
}

// gather takes what the message still lacks; it answers what stands behind it, and whether it is whole.
func (i *inbox) gather(bytes []byte) ([]byte, bool) {
	if i.have == 0 {
		i.have = copy(i.bytes[:1], bytes)
		bytes = bytes[i.have:]
	}
	if i.have == 0 {
		return nil, false
	}
	size := messageBytes(i.bytes[0])
	n := copy(i.bytes[i.have:size], bytes)
	i.have += n
	return bytes[n:], i.have == size
}

// message is the whole one; with it the inbox is empty again.
func (i *inbox) message() []byte {
	size := i.have
	i.have = 0
	return i.bytes[:size]
}

// messageBytes: a letter that is none of these is whole by itself, for it closes the bourse.
func messageBytes(letter byte) int {
	switch letter {
	case letterEnter:
		return api.EnterBytes
	case letterReplace:
		return api.ReplaceBytes
	case letterCancel:
		return api.CancelBytes
	}
	return 1
}

type enterMessage struct {
	token  uint32
	side   byte
	stock  uint8
	price  uint16
	shares uint16
	kind   byte
}

func readEnter(fields []byte) enterMessage {
	var m enterMessage
	m.token, fields = field.Take[uint32](fields)
	m.side, fields = field.Take[byte](fields)
	m.stock, fields = field.Take[uint8](fields)
	m.price, fields = field.Take[uint16](fields)
	m.shares, fields = field.Take[uint16](fields)
	m.kind, _ = field.Take[byte](fields)
	return m
}

type replaceMessage struct {
	token    uint32
	newToken uint32
	price    uint16
	shares   uint16
}

func readReplace(fields []byte) replaceMessage {
	var m replaceMessage
	m.token, fields = field.Take[uint32](fields)
	m.newToken, fields = field.Take[uint32](fields)
	m.price, fields = field.Take[uint16](fields)
	m.shares, _ = field.Take[uint16](fields)
	return m
}

type cancelMessage struct {
	token  uint32
	shares uint16
}

func readCancel(fields []byte) cancelMessage {
	var m cancelMessage
	m.token, fields = field.Take[uint32](fields)
	m.shares, _ = field.Take[uint16](fields)
	return m
}

package frames

import (
	"math"
	"slices"

	"tenaille/api"
)

// replyKind is the byte that replies begin with; it is no frame's kind, so that neither is taken for the other one.
const replyKind = 200

// Where a reply's bytes stand; the tag is behind them.
const (
	replyNonceAt = 1
	codeAt       = 9
	valueAt      = 10
	valueSize    = 4
	replySize    = valueAt + valueSize + api.TagSize
)

const (
	mostCode  = math.MaxUint8
	mostValue = math.MaxInt32
)

// WriteReply is the bytes of a reply that may be.
func WriteReply(r api.Reply, key []byte) ([]byte, api.Errno) {
	if !replyMayBe(r) {
		return nil, api.ErrArg
	}
	return tagged(replyBytes(r), key), api.OK
}

// ReadReply is the reply that all bytes of b are.
func ReadReply(b, key []byte) (api.Reply, api.Errno) {
	if len(b) < replySize {
		return api.Reply{}, api.ErrShort
	}
	r, ok := replyIn(b)
	if !ok {
		return api.Reply{}, api.ErrForm
	}
	if !isTagged(b, key) {
		return api.Reply{}, api.ErrAuth
	}
	return r, api.OK
}

// replyMayBe tells whether a reply can be written.
func replyMayBe(r api.Reply) bool {
	return within(0, mostCode, int(r.Code)) && within(0, mostValue, r.Value)
}

// replyBytes is a reply's bytes ahead of the tag.
func replyBytes(r api.Reply) []byte {
	return slices.Concat(
		numbers(1, replyKind),
		numbers(8, r.Nonce),
		numbers(1, int(r.Code)),
		numbers(valueSize, r.Value),
	)
}

// replyIn is what bytes are, that are enough for a reply; are they one that may be?
func replyIn(b []byte) (api.Reply, bool) {
	if len(b) != replySize || b[0] != replyKind {
		return api.Reply{}, false
	}
	r := api.Reply{
		Nonce: number(b, replyNonceAt, 8),
		Code:  api.Errno(b[codeAt]),
		Value: int(number(b, valueAt, valueSize)),
	}
	return r, replyMayBe(r)
}

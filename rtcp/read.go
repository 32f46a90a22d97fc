package rtcp

import (
	"math/bits"
	"strconv"

	"tenaille/api"
	"tenaille/octets"
)

const (
	lossSize = 4
	firSize  = 8
)

// refusal is what a reader panics with where the bytes are no compound.
type refusal struct {
	code api.Errno
}

// Error tells the refusal's number.
func (r refusal) Error() string {
	return "rtcp: refused, error " + strconv.Itoa(int(r.code))
}

// refuseIf gives up reading, so that those who read needn't hand a refusal on.
func refuseIf(wrong bool, code api.Errno) {
	if wrong {
		panic(refusal{code: code})
	}
}

// compound is the packets that all bytes are.
func compound(b []byte) []api.Ctrl {
	refuseIf(len(b) == 0, api.ErrShort)
	var packets []api.Ctrl
	for len(b) > 0 {
		size := packetSize(b)
		// What isn't all there is no packet too many.
		refuseIf(len(packets) == api.MaxParts, api.ErrForm)
		packets = append(packets, packet(b[:size]))
		b = b[size:]
	}
	return packets
}

// packetSize is how many bytes the packet has that b begins with.
func packetSize(b []byte) int {
	behind, ok := octets.Num(b, 2, 2)
	refuseIf(!ok, api.ErrShort)
	size := headSize + wordSize*int(behind)
	refuseIf(len(b) < size, api.ErrShort)
	return size
}

// packet is what all bytes of one are.
func packet(b []byte) api.Ctrl {
	refuseIf(b[0]>>5 != version<<1, api.ErrForm)
	count := int(b[0] & mostCount)
	kind := kindOf(int(b[1]), count)
	body, ok := bodies()[kind]
	refuseIf(!ok, api.ErrForm)
	r := reader{count: count, rest: b[headSize:]}
	c := body(&r)
	refuseIf(len(r.rest) > 0, api.ErrForm)
	c.Kind = kind
	return c
}

// kindOf is the kind of a type's packets with a count, 0 without one.
func kindOf(sort, count int) int {
	for _, f := range feedbacks {
		if f.sort == sort && f.count == count {
			return f.kind
		}
	}
	// A feedback's kind is no type: a packet of the type 1 is no Nack.
	if sort < api.KindSR || sort > api.KindBye {
		return 0
	}
	return sort
}

// bodies is how a packet's body is read, by its kind.
func bodies() map[int]func(*reader) api.Ctrl {
	return map[int]func(*reader) api.Ctrl{
		api.KindSR:   (*reader).sent,
		api.KindRR:   (*reader).received,
		api.KindSDES: (*reader).names,
		api.KindBye:  (*reader).bye,
		api.KindNack: (*reader).nack,
		api.KindPli:  (*reader).pli,
		api.KindFir:  (*reader).fir,
		api.KindRemb: (*reader).remb,
	}
}

// reader goes along a body's bytes.
type reader struct {
	count int    // that stands ahead of the body
	rest  []byte // what it hasn't gone along yet
}

// bytes are the next n ones.
func (r *reader) bytes(n int) []byte {
	// All bytes of the packet are there, so that a body which lacks some isn't short, but wrong.
	refuseIf(n > len(r.rest), api.ErrForm)
	next := r.rest[:n]
	r.rest = r.rest[n:]
	return next
}

// number is that of the next n bytes.
func (r *reader) number(n int) uint64 {
	x, _ := octets.Num(r.bytes(n), 0, n)
	return x
}

// word is the number of the next four bytes.
func (r *reader) word() uint32 {
	return uint32(r.number(wordSize))
}

// zeros goes along n bytes that are 0.
func (r *reader) zeros(n int) {
	for _, x := range r.bytes(n) {
		refuseIf(x != 0, api.ErrForm)
	}
}

// list is the n things that next tells.
func list[T any](n int, next func() T) []T {
	refuseIf(n > api.MaxList, api.ErrForm)
	var all []T
	for range n {
		all = append(all, next())
	}
	return all
}

// toEnd is all things of a size that next tells, at least one.
func toEnd[T any](r *reader, size int, next func() T) []T {
	n := len(r.rest) / size
	refuseIf(n == 0, api.ErrForm)
	return list(n, next)
}

func (r *reader) sent() api.Ctrl {
	return api.Ctrl{
		Source:  r.word(),
		Time:    r.number(8),
		Stamp:   r.word(),
		Packets: r.word(),
		Octets:  r.word(),
		Reports: list(r.count, r.report),
	}
}

func (r *reader) received() api.Ctrl {
	return api.Ctrl{Source: r.word(), Reports: list(r.count, r.report)}
}

func (r *reader) report() api.Report {
	return api.Report{
		Source:   r.word(),
		Fraction: byte(r.number(1)),
		Lost:     signed(r.number(3)),
		High:     r.word(),
		Jitter:   r.word(),
		Last:     r.word(),
		Delay:    r.word(),
	}
}

// signed is a number of three bytes with a sign.
func signed(x uint64) int32 {
	return int32(uint32(x)<<8) >> 8
}

func (r *reader) names() api.Ctrl {
	return api.Ctrl{Names: list(r.count, r.named)}
}

func (r *reader) named() api.Named {
	source := r.word()
	refuseIf(r.number(1) != nameMark, api.ErrForm)
	name := string(r.bytes(int(r.number(1))))
	refuseIf(!IsName(name), api.ErrForm)
	r.zeros(zerosBehind(name))
	return api.Named{Source: source, Name: name}
}

func (r *reader) bye() api.Ctrl {
	return api.Ctrl{Sources: list(r.count, r.word)}
}

func (r *reader) nack() api.Ctrl {
	return api.Ctrl{Source: r.word(), Media: r.word(), Losses: toEnd(r, lossSize, r.loss)}
}

func (r *reader) loss() api.Loss {
	return api.Loss{Seq: uint16(r.number(2)), Bits: uint16(r.number(2))}
}

func (r *reader) pli() api.Ctrl {
	return api.Ctrl{Source: r.word(), Media: r.word()}
}

func (r *reader) fir() api.Ctrl {
	c := api.Ctrl{Source: r.word()}
	r.zeros(wordSize)
	c.Firs = toEnd(r, firSize, r.asked)
	return c
}

func (r *reader) asked() api.Fir {
	fir := api.Fir{Source: r.word(), Seq: byte(r.number(1))}
	r.zeros(3)
	return fir
}

func (r *reader) remb() api.Ctrl {
	c := api.Ctrl{Source: r.word()}
	r.zeros(wordSize)
	refuseIf(string(r.bytes(len(letters))) != letters, api.ErrForm)
	many := int(r.number(1))
	c.Rate = r.rate()
	c.Sources = list(many, r.word)
	return c
}

// rate is what an exponent and a mantissa tell.
func (r *reader) rate() uint64 {
	x := r.number(3)
	exponent := int(x >> mantissaBits)
	mantissa := x & (1<<mantissaBits - 1)
	// The bits are counted ahead of being shifted, since some could be lost by that.
	refuseIf(exponent+bits.Len64(mantissa) >= bits.Len64(rateLimit), api.ErrForm)
	return mantissa << exponent
}

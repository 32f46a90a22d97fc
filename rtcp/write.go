package rtcp

import (
	"math/bits"
	"slices"

	"tenaille/api"
	"tenaille/octets"
)

// Lost has three bytes, with a sign.
const (
	leastLost = -1 << 23
	mostLost  = 1<<23 - 1
)

// mayBe tells whether a packet can be written.
func mayBe(c api.Ctrl) bool {
	other, known := besides(c)
	return known && isBlank(other) && listsMayBe(c) && rateMayBe(c.Rate)
}

// besides is what a packet has that its kind hasn't; is it of a kind at all?
func besides(c api.Ctrl) (api.Ctrl, bool) {
	switch c.Kind {
	case api.KindSR:
		c.Time, c.Stamp, c.Packets, c.Octets = 0, 0, 0, 0
		fallthrough
	case api.KindRR:
		c.Source, c.Reports = 0, nil
	case api.KindSDES:
		c.Names = nil
	case api.KindBye:
		c.Sources = nil
	case api.KindNack:
		c.Losses = nil
		fallthrough
	case api.KindPli:
		c.Source, c.Media = 0, 0
	case api.KindFir:
		c.Source, c.Firs = 0, nil
	case api.KindRemb:
		c.Source, c.Sources, c.Rate = 0, nil, 0
	default:
		return api.Ctrl{}, false
	}
	return c, true
}

// isBlank tells whether a packet has nothing but its kind.
func isBlank(c api.Ctrl) bool {
	numbers := c.Source | c.Media | c.Stamp | c.Packets | c.Octets
	return numbers == 0 && c.Time == 0 && c.Rate == 0 && longest(c) == 0
}

// longest is how many things the longest one of a packet's lists has.
func longest(c api.Ctrl) int {
	return max(len(c.Reports), len(c.Names), len(c.Sources), len(c.Losses), len(c.Firs))
}

// listsMayBe tells whether lists, and what is in them, are as they must be.
func listsMayBe(c api.Ctrl) bool {
	if longest(c) > api.MaxList {
		return false
	}
	if c.Kind == api.KindNack && len(c.Losses) == 0 || c.Kind == api.KindFir && len(c.Firs) == 0 {
		return false
	}
	for _, report := range c.Reports {
		if report.Lost < leastLost || report.Lost > mostLost {
			return false
		}
	}
	for _, named := range c.Names {
		if !IsName(named.Name) {
			return false
		}
	}
	return true
}

// rateMayBe tells whether a mantissa and an exponent can tell a rate.
func rateMayBe(rate uint64) bool {
	mantissa, exponent := split(rate)
	return rate < rateLimit && mantissa<<exponent == rate
}

// split is a rate's mantissa, with the least exponent, but for the bits that have no room in it.
func split(rate uint64) (uint64, int) {
	exponent := max(bits.Len64(rate)-mantissaBits, 0)
	return rate >> exponent, exponent
}

// packetBytes is the bytes of a packet that may be.
func packetBytes(c api.Ctrl) []byte {
	sort, count := headOf(c)
	body := bodyOf(c)
	b := octets.Put(nil, 1, version<<6|uint64(count))
	b = octets.Put(b, 1, uint64(sort))
	b = octets.Put(b, 2, uint64(len(body)/wordSize))
	return append(b, body...)
}

// headOf is a packet's type and its count.
func headOf(c api.Ctrl) (sort, count int) {
	for _, f := range feedbacks {
		if f.kind == c.Kind {
			return f.sort, f.count
		}
	}
	// Of all others the count is how many the one list has that is theirs.
	return c.Kind, longest(c)
}

// bodyOf is a packet's bytes behind the first four.
func bodyOf(c api.Ctrl) []byte {
	switch c.Kind {
	case api.KindSR:
		time := octets.Put(nil, 8, c.Time)
		return slices.Concat(words(c.Source), time, words(c.Stamp, c.Packets, c.Octets), reportsBytes(c.Reports))
	case api.KindRR:
		return slices.Concat(words(c.Source), reportsBytes(c.Reports))
	case api.KindSDES:
		return namesBytes(c.Names)
	case api.KindBye:
		return words(c.Sources...)
	case api.KindNack:
		return slices.Concat(words(c.Source, c.Media), lossesBytes(c.Losses))
	case api.KindFir:
		return slices.Concat(words(c.Source, 0), firsBytes(c.Firs))
	case api.KindRemb:
		return slices.Concat(words(c.Source, 0), []byte(letters), rateBytes(c), words(c.Sources...))
	}
	return words(c.Source, c.Media)
}

// words is numbers of four bytes each.
func words(l ...uint32) []byte {
	var b []byte
	for _, x := range l {
		b = octets.Put(b, wordSize, uint64(x))
	}
	return b
}

func reportsBytes(l []api.Report) []byte {
	var b []byte
	for _, x := range l {
		b = octets.Put(b, 4, uint64(x.Source))
		b = octets.Put(b, 1, uint64(x.Fraction))
		b = octets.Put(b, 3, uint64(x.Lost))
		b = append(b, words(x.High, x.Jitter, x.Last, x.Delay)...)
	}
	return b
}

func namesBytes(l []api.Named) []byte {
	var b []byte
	for _, x := range l {
		b = octets.Put(b, 4, uint64(x.Source))
		b = append(b, nameMark, byte(len(x.Name)))
		b = append(b, x.Name...)
		b = append(b, make([]byte, zerosBehind(x.Name))...)
	}
	return b
}

// zerosBehind is how many zeros are behind a name: at least one, since they are its end, too.
func zerosBehind(name string) int {
	ahead := wordSize + 2 + len(name)
	return wordSize - ahead%wordSize
}

func lossesBytes(l []api.Loss) []byte {
	var b []byte
	for _, x := range l {
		b = octets.Put(b, 2, uint64(x.Seq))
		b = octets.Put(b, 2, uint64(x.Bits))
	}
	return b
}

func firsBytes(l []api.Fir) []byte {
	var b []byte
	for _, x := range l {
		b = octets.Put(b, 4, uint64(x.Source))
		b = append(b, x.Seq, 0, 0, 0)
	}
	return b
}

// rateBytes is how many sources a rate is for, and the rate.
func rateBytes(c api.Ctrl) []byte {
	mantissa, exponent := split(c.Rate)
	b := octets.Put(nil, 1, uint64(len(c.Sources)))
	return octets.Put(b, 3, uint64(exponent)<<mantissaBits|mantissa)
}

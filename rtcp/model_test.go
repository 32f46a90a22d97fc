package rtcp_test

import (
	"bytes"
	"encoding/binary"
	"math/big"
	"math/rand"
	"slices"
	"testing"

	"tenaille/api"
	"tenaille/rtcp"
)

// The model goes by the chapter's words, with places counted from each packet's beginning, and without a reader.

func num2(b []byte) int    { return int(binary.BigEndian.Uint16(b)) }
func num4(b []byte) uint32 { return binary.BigEndian.Uint32(b) }

// modelRead tells the packets of a compound, and an error.
func modelRead(b []byte) ([]api.Ctrl, api.Errno) {
	if len(b) > 1200 {
		return nil, api.ErrForm
	}
	if len(b) == 0 {
		return nil, api.ErrShort
	}
	var l []api.Ctrl
	for at := 0; at < len(b); {
		if len(b)-at < 4 {
			return nil, api.ErrShort
		}
		size := 4 + 4*num2(b[at+2:])
		if len(b)-at < size {
			return nil, api.ErrShort
		}
		c, ok := modelPacket(b[at : at+size])
		if !ok || len(l) == 8 {
			return nil, api.ErrForm
		}
		l = append(l, c)
		at += size
	}
	return l, api.OK
}

// modelPacket tells the packet that all bytes are, and whether they are one.
func modelPacket(b []byte) (api.Ctrl, bool) {
	count, size := int(b[0]&31), len(b)
	if b[0]&0xE0 != 0x80 {
		return api.Ctrl{}, false
	}
	switch b[1] {
	case 200:
		return modelReports(b, api.KindSR, 28, count)
	case 201:
		return modelReports(b, api.KindRR, 8, count)
	case 202:
		return modelNames(b, count)
	case 203:
		if count > 16 || size != 4+4*count {
			return api.Ctrl{}, false
		}
		return api.Ctrl{Kind: api.KindBye, Sources: modelSources(b[4:])}, true
	case 205:
		if count == 1 {
			return modelNack(b)
		}
	case 206:
		switch count {
		case 1:
			if size == 12 {
				return api.Ctrl{Kind: api.KindPli, Source: num4(b[4:]), Media: num4(b[8:])}, true
			}
		case 4:
			return modelFir(b)
		case 15:
			return modelRemb(b)
		}
	}
	return api.Ctrl{}, false
}

func modelSources(b []byte) []uint32 {
	var l []uint32
	for at := 0; at < len(b); at += 4 {
		l = append(l, num4(b[at:]))
	}
	return l
}

func modelReports(b []byte, kind, at, count int) (api.Ctrl, bool) {
	if count > 16 || len(b) != at+24*count {
		return api.Ctrl{}, false
	}
	c := api.Ctrl{Kind: kind, Source: num4(b[4:])}
	if kind == api.KindSR {
		c.Time = binary.BigEndian.Uint64(b[8:])
		c.Stamp, c.Packets, c.Octets = num4(b[16:]), num4(b[20:]), num4(b[24:])
	}
	for ; at < len(b); at += 24 {
		lost := int32(b[at+5])<<16 + int32(b[at+6])<<8 + int32(b[at+7])
		if lost >= 1<<23 {
			lost -= 1 << 24
		}
		c.Reports = append(c.Reports, api.Report{
			Source: num4(b[at:]), Fraction: b[at+4], Lost: lost, High: num4(b[at+8:]),
			Jitter: num4(b[at+12:]), Last: num4(b[at+16:]), Delay: num4(b[at+20:]),
		})
	}
	return c, true
}

func modelNames(b []byte, count int) (api.Ctrl, bool) {
	c := api.Ctrl{Kind: api.KindSDES}
	at := 4
	for range count {
		if len(b)-at < 6 || b[at+4] != 1 {
			return api.Ctrl{}, false
		}
		n := int(b[at+5])
		if n == 0 || n > 16 || len(b)-at-6 < n+1 {
			return api.Ctrl{}, false
		}
		name := b[at+6 : at+6+n]
		if slices.ContainsFunc(name, func(x byte) bool { return x < '!' || x > '~' }) {
			return api.Ctrl{}, false
		}
		c.Names = append(c.Names, api.Named{Source: num4(b[at:]), Name: string(name)})
		// All packets have a multiple of 4 bytes, so that the zeros are there if the first one is.
		for at += 6 + n; ; {
			if b[at] != 0 {
				return api.Ctrl{}, false
			}
			if at++; at%4 == 0 {
				break
			}
		}
	}
	return c, count <= 16 && at == len(b)
}

func modelNack(b []byte) (api.Ctrl, bool) {
	if len(b) < 16 || len(b) > 12+4*16 {
		return api.Ctrl{}, false
	}
	c := api.Ctrl{Kind: api.KindNack, Source: num4(b[4:]), Media: num4(b[8:])}
	for at := 12; at < len(b); at += 4 {
		c.Losses = append(c.Losses, api.Loss{Seq: uint16(num2(b[at:])), Bits: uint16(num2(b[at+2:]))})
	}
	return c, true
}

func modelFir(b []byte) (api.Ctrl, bool) {
	if len(b) < 20 || len(b) > 12+8*16 || len(b)%8 != 4 || num4(b[8:]) != 0 {
		return api.Ctrl{}, false
	}
	c := api.Ctrl{Kind: api.KindFir, Source: num4(b[4:])}
	for at := 12; at < len(b); at += 8 {
		if b[at+5] != 0 || b[at+6] != 0 || b[at+7] != 0 {
			return api.Ctrl{}, false
		}
		c.Firs = append(c.Firs, api.Fir{Source: num4(b[at:]), Seq: b[at+4]})
	}
	return c, true
}

func modelRemb(b []byte) (api.Ctrl, bool) {
	if len(b) < 20 || num4(b[8:]) != 0 || !bytes.Equal(b[12:16], []byte("REMB")) || b[16] > 16 || len(b) != 20+4*int(b[16]) {
		return api.Ctrl{}, false
	}
	rate := big.NewInt(int64(b[17]&3)<<16 + int64(num2(b[18:])))
	rate.Lsh(rate, uint(b[17]>>2))
	if !rate.IsInt64() {
		return api.Ctrl{}, false
	}
	return api.Ctrl{Kind: api.KindRemb, Source: num4(b[4:]), Rate: rate.Uint64(), Sources: modelSources(b[20:])}, true
}

// modelWrite is the bytes of packets, as far as they can be laid.
func modelWrite(l ...api.Ctrl) []byte {
	var all []byte
	for _, c := range l {
		b := modelBytes(c)
		binary.BigEndian.PutUint16(b[2:], uint16(len(b)/4-1))
		all = append(all, b...)
	}
	return all
}

func put4(b []byte, l ...uint32) []byte {
	for _, x := range l {
		b = binary.BigEndian.AppendUint32(b, x)
	}
	return b
}

func modelBytes(c api.Ctrl) []byte {
	switch c.Kind {
	case api.KindSR:
		b := put4([]byte{byte(0x80 + len(c.Reports)), 200, 0, 0}, c.Source)
		b = binary.BigEndian.AppendUint64(b, c.Time)
		return modelPutReports(put4(b, c.Stamp, c.Packets, c.Octets), c.Reports)
	case api.KindRR:
		return modelPutReports(put4([]byte{byte(0x80 + len(c.Reports)), 201, 0, 0}, c.Source), c.Reports)
	case api.KindSDES:
		b := []byte{byte(0x80 + len(c.Names)), 202, 0, 0}
		for _, x := range c.Names {
			b = append(put4(b, x.Source), 1, byte(len(x.Name)))
			b = append(append(b, x.Name...), 0)
			for len(b)%4 != 0 {
				b = append(b, 0)
			}
		}
		return b
	case api.KindBye:
		return put4([]byte{byte(0x80 + len(c.Sources)), 203, 0, 0}, c.Sources...)
	case api.KindNack:
		b := put4([]byte{0x81, 205, 0, 0}, c.Source, c.Media)
		for _, x := range c.Losses {
			b = put4(b, uint32(x.Seq)<<16+uint32(x.Bits))
		}
		return b
	case api.KindPli:
		return put4([]byte{0x81, 206, 0, 0}, c.Source, c.Media)
	case api.KindFir:
		b := put4([]byte{0x84, 206, 0, 0}, c.Source, 0)
		for _, x := range c.Firs {
			b = put4(b, x.Source, uint32(x.Seq)<<24)
		}
		return b
	}
	exponent, mantissa := uint32(0), c.Rate
	for ; mantissa >= 1<<18; mantissa /= 2 {
		exponent++
	}
	b := put4([]byte{0x8F, 206, 0, 0}, c.Source, 0)
	b = append(b, 'R', 'E', 'M', 'B')
	b = put4(b, uint32(len(c.Sources))<<24+exponent<<18+uint32(mantissa))
	return put4(b, c.Sources...)
}

func modelPutReports(b []byte, l []api.Report) []byte {
	for _, x := range l {
		b = put4(b, x.Source, uint32(x.Fraction)<<24+uint32(x.Lost)&0xFFFFFF, x.High, x.Jitter, x.Last, x.Delay)
	}
	return b
}

// alike tells whether two packets are one; lists that are nil are as empty ones.
func alike(c, d api.Ctrl) bool {
	return c.Kind == d.Kind && c.Source == d.Source && c.Media == d.Media && c.Time == d.Time && c.Stamp == d.Stamp &&
		c.Packets == d.Packets && c.Octets == d.Octets && slices.Equal(c.Reports, d.Reports) && slices.Equal(c.Names, d.Names) &&
		slices.Equal(c.Sources, d.Sources) && slices.Equal(c.Losses, d.Losses) && slices.Equal(c.Firs, d.Firs) && c.Rate == d.Rate
}

// checkRead holds Read against the model, and looks whether b is what it was.
func checkRead(t *testing.T, b []byte) api.Errno {
	t.Helper()
	was := bytes.Clone(b)
	want, code := modelRead(b)
	l, e := rtcp.Read(b)
	if e != code || !slices.EqualFunc(l, want, alike) {
		t.Fatalf("Read(%x): %+v, %d, asked for: %+v, %d", was, l, e, want, code)
	}
	if e != api.OK && len(l) != 0 {
		t.Fatalf("Read(%x): beside the error %d: %+v", was, e, l)
	}
	if !bytes.Equal(b, was) {
		t.Fatalf("%x has become %x", was, b)
	}
	return e
}

// checkWritten holds Write of packets that may be against the model, and what it tells against Read.
func checkWritten(t *testing.T, l ...api.Ctrl) []byte {
	t.Helper()
	b, e := rtcp.Write(l)
	if want := modelWrite(l...); e != api.OK || !bytes.Equal(b, want) {
		t.Fatalf("Write(%+v): %x, %d, asked for: %x", l, b, e, want)
	}
	if again, e := rtcp.Read(b); e != api.OK || !slices.EqualFunc(again, l, alike) {
		t.Fatalf("%+v is read as %+v, %d", l, again, e)
	}
	return b
}

// checkRefused asks that packets aren't written.
func checkRefused(t *testing.T, l ...api.Ctrl) {
	t.Helper()
	if b, e := rtcp.Write(l); e != api.ErrArg || len(b) != 0 {
		t.Fatalf("Write(%+v): %x, %d", l, b, e)
	}
}

// kinds are all kinds that a packet may be of.
func kinds() []int {
	return []int{api.KindSR, api.KindRR, api.KindSDES, api.KindBye, api.KindNack, api.KindPli, api.KindFir, api.KindRemb}
}

// sample is a packet of a kind that has all that its kind may have.
func sample(kind int) api.Ctrl {
	reports := []api.Report{
		{Source: 0xA1A2A3A4, Fraction: 0xB1, Lost: -2, High: 0xC1C2C3C4, Jitter: 0xD1D2D3D4, Last: 0xE1E2E3E4, Delay: 0xF1F2F3F4},
		{Source: 0x01020304, Fraction: 5, Lost: 0x060708, High: 0x090A0B0C, Jitter: 0x0D0E0F10, Last: 0x11121314, Delay: 0x15161718},
	}
	sources := []uint32{0x91929394, 0xFFFFFFFF, 0, 7}
	switch kind {
	case api.KindSR:
		return api.Ctrl{Kind: kind, Source: 0x21222324, Time: 0x8182838485868788, Stamp: 0x31323334, Packets: 0x41424344, Octets: 0x51525354, Reports: reports}
	case api.KindRR:
		return api.Ctrl{Kind: kind, Source: 0x21222324, Reports: reports}
	case api.KindSDES:
		return api.Ctrl{Kind: kind, Names: []api.Named{{Source: 0x61626364, Name: "!~"}, {Source: 2, Name: "a@host.example"}, {Source: 3, Name: "x"}}}
	case api.KindBye:
		return api.Ctrl{Kind: kind, Sources: sources}
	case api.KindNack:
		return api.Ctrl{Kind: kind, Source: 0x21222324, Media: 0x71727374, Losses: []api.Loss{{Seq: 0xFFFE, Bits: 0x8001}, {Seq: 3, Bits: 4}, {}}}
	case api.KindPli:
		return api.Ctrl{Kind: kind, Source: 0x21222324, Media: 0x71727374}
	case api.KindFir:
		return api.Ctrl{Kind: kind, Source: 0x21222324, Firs: []api.Fir{{Source: 0x71727374, Seq: 0xFE}, {Source: 2}, {Seq: 1}}}
	}
	return api.Ctrl{Kind: kind, Source: 0x21222324, Sources: sources, Rate: 0x2F5A3 << 20}
}

// least is a packet of a kind that has no more than it must.
func least(kind int) api.Ctrl {
	c := api.Ctrl{Kind: kind}
	switch kind {
	case api.KindNack:
		c.Losses = make([]api.Loss, 1)
	case api.KindFir:
		c.Firs = make([]api.Fir, 1)
	}
	return c
}

// most is a packet of a kind whose list has n things.
func most(kind, n int) api.Ctrl {
	c := api.Ctrl{Kind: kind}
	switch kind {
	case api.KindSR, api.KindRR:
		c.Reports = make([]api.Report, n)
	case api.KindSDES:
		c.Names = make([]api.Named, n)
		for i := range c.Names {
			c.Names[i].Name = "n"
		}
	case api.KindBye, api.KindRemb:
		c.Sources = make([]uint32, n)
	case api.KindNack:
		c.Losses = make([]api.Loss, n)
	case api.KindFir:
		c.Firs = make([]api.Fir, n)
	}
	return c
}

// few is how many things a list by chance has: now and then as many as may be.
func few(r *rand.Rand, from int) int {
	if r.Intn(10) == 0 {
		return 16
	}
	return from + r.Intn(5)
}

// anyCtrl is one by chance that may be.
func anyCtrl(r *rand.Rand) api.Ctrl {
	c := api.Ctrl{Kind: kinds()[r.Intn(8)]}
	if c.Kind != api.KindSDES && c.Kind != api.KindBye {
		c.Source = r.Uint32()
	}
	switch c.Kind {
	case api.KindSR, api.KindRR:
		if c.Kind == api.KindSR {
			c.Time, c.Stamp, c.Packets, c.Octets = r.Uint64(), r.Uint32(), r.Uint32(), r.Uint32()
		}
		for range few(r, 0) {
			c.Reports = append(c.Reports, api.Report{
				Source: r.Uint32(), Fraction: byte(r.Uint32()), Lost: r.Int31n(1<<24) - 1<<23, High: r.Uint32(),
				Jitter: r.Uint32(), Last: r.Uint32(), Delay: r.Uint32(),
			})
		}
	case api.KindSDES:
		for range few(r, 0) {
			c.Names = append(c.Names, api.Named{Source: r.Uint32(), Name: anyName(r)})
		}
	case api.KindBye:
		c.Sources = anySources(r)
	case api.KindNack:
		c.Media = r.Uint32()
		for range few(r, 1) {
			c.Losses = append(c.Losses, api.Loss{Seq: uint16(r.Uint32()), Bits: uint16(r.Uint32())})
		}
	case api.KindPli:
		c.Media = r.Uint32()
	case api.KindFir:
		for range few(r, 1) {
			c.Firs = append(c.Firs, api.Fir{Source: r.Uint32(), Seq: byte(r.Uint32())})
		}
	case api.KindRemb:
		c.Sources = anySources(r)
		c.Rate = uint64(r.Intn(1<<18)) << r.Intn(46)
	}
	return c
}

func anySources(r *rand.Rand) []uint32 {
	var l []uint32
	for range few(r, 0) {
		l = append(l, r.Uint32())
	}
	return l
}

func anyName(r *rand.Rand) string {
	b := make([]byte, 1+r.Intn(16))
	for i := range b {
		b[i] = byte(33 + r.Intn(94))
	}
	return string(b)
}

// anyCompound is packets by chance that may be, at most some 1200 bytes of them.
func anyCompound(r *rand.Rand) []api.Ctrl {
	var l []api.Ctrl
	for range 1 + r.Intn(8) {
		c := anyCtrl(r)
		if len(modelWrite(append(l, c)...)) > 1200 {
			break
		}
		l = append(l, c)
	}
	return l
}

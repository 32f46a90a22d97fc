package rtcp_test

import (
	"bytes"
	"math/bits"
	"math/rand"
	"reflect"
	"slices"
	"strings"
	"testing"

	"tenaille/api"
	"tenaille/rtcp"
)

// P11.2: Write.

func TestWriteEachKind(t *testing.T) {
	for _, kind := range kinds() {
		for _, c := range []api.Ctrl{sample(kind), least(kind), most(kind, 16)} {
			checkWritten(t, c)
		}
	}
	for _, c := range []struct {
		c    api.Ctrl
		want string
	}{
		{api.Ctrl{Kind: api.KindRR, Source: 0x01020304, Reports: []api.Report{{Source: 5, Fraction: 6, Lost: -1, High: 7, Jitter: 8, Last: 9, Delay: 10}}}, "\x81\xc9\x00\x07\x01\x02\x03\x04\x00\x00\x00\x05\x06\xff\xff\xff\x00\x00\x00\x07\x00\x00\x00\x08\x00\x00\x00\x09\x00\x00\x00\x0a"},
		{api.Ctrl{Kind: api.KindSDES}, "\x80\xca\x00\x00"},
		{api.Ctrl{Kind: api.KindSDES, Names: []api.Named{{Source: 1, Name: "ab"}}}, "\x81\xca\x00\x03\x00\x00\x00\x01\x01\x02ab\x00\x00\x00\x00"},
		{api.Ctrl{Kind: api.KindBye}, "\x80\xcb\x00\x00"},
		{api.Ctrl{Kind: api.KindFir, Source: 1, Firs: []api.Fir{{Source: 2, Seq: 3}}}, "\x84\xce\x00\x04\x00\x00\x00\x01\x00\x00\x00\x00\x00\x00\x00\x02\x03\x00\x00\x00"},
		{api.Ctrl{Kind: api.KindRemb, Source: 1, Rate: 1 << 18}, "\x8f\xce\x00\x04\x00\x00\x00\x01\x00\x00\x00\x00REMB\x00\x06\x00\x00"},
	} {
		if b, e := rtcp.Write([]api.Ctrl{c.c}); e != api.OK || string(b) != c.want {
			t.Errorf("%+v: %x, %d", c.c, b, e)
		}
	}
}

func TestWriteOfOtherKinds(t *testing.T) {
	for kind := -300; kind <= 600; kind++ {
		if slices.Contains(kinds(), kind) {
			checkWritten(t, least(kind))
			continue
		}
		checkRefused(t, api.Ctrl{Kind: kind})
	}
	// Numbers that would be a kind, if they were cut to fewer bits.
	for _, kind := range kinds() {
		for shift := 8; shift < 63; shift++ {
			c := least(kind)
			c.Kind += 1 << shift
			checkRefused(t, c)
			c.Kind -= 2 << shift
			checkRefused(t, c)
		}
	}
}

func TestWriteListsOfEachLength(t *testing.T) {
	for _, kind := range kinds() {
		if kind == api.KindPli {
			continue
		}
		atLeast := len(least(kind).Losses) + len(least(kind).Firs)
		for n := range 40 {
			if n >= atLeast && n <= 16 {
				checkWritten(t, most(kind, n))
			} else {
				checkRefused(t, most(kind, n))
			}
		}
		for _, n := range []int{255, 256, 257, 65536, 1 << 20} {
			checkRefused(t, most(kind, n))
		}
	}
}

func TestWriteOfWhatAKindHasNot(t *testing.T) {
	fields := []string{"Source", "Media", "Time", "Stamp", "Packets", "Octets", "Reports", "Names", "Sources", "Losses", "Firs", "Rate"}
	has := map[int]string{
		api.KindSR: "Source Time Stamp Packets Octets Reports", api.KindRR: "Source Reports", api.KindSDES: "Names", api.KindBye: "Sources",
		api.KindNack: "Source Media Losses", api.KindPli: "Source Media", api.KindFir: "Source Firs", api.KindRemb: "Source Sources Rate",
	}
	if n := reflect.TypeFor[api.Ctrl]().NumField(); n != len(fields)+1 {
		t.Fatal(n)
	}
	for _, kind := range kinds() {
		for _, field := range fields {
			for bit := range 64 {
				c := least(kind)
				f := reflect.ValueOf(&c).Elem().FieldByName(field)
				if f.Kind() == reflect.Slice {
					f.Set(reflect.MakeSlice(f.Type(), 1, 1))
					c.Names = slices.Repeat([]api.Named{{Name: "n"}}, len(c.Names))
				} else if bit >= f.Type().Bits() || field == "Rate" && bit == 63 {
					break
				} else {
					f.SetUint(1 << bit)
				}
				if slices.Contains(strings.Fields(has[kind]), field) {
					checkWritten(t, c)
				} else {
					checkRefused(t, c)
					checkRefused(t, least(api.KindPli), c)
				}
			}
		}
	}
	// Lists that are empty are as none.
	for _, kind := range kinds() {
		c := sample(kind)
		for _, field := range fields {
			f := reflect.ValueOf(&c).Elem().FieldByName(field)
			if f.Kind() == reflect.Slice && f.IsNil() {
				f.Set(reflect.MakeSlice(f.Type(), 0, 4))
			}
		}
		checkWritten(t, c)
	}
}

func TestWriteLost(t *testing.T) {
	for _, kind := range []int{api.KindSR, api.KindRR} {
		for at := range 3 {
			c := most(kind, 3)
			lost := &c.Reports[at].Lost
			for _, *lost = range []int32{-1 << 23, -1<<23 + 1, -65537, -65536, -257, -256, -2, -1, 0, 1, 255, 256, 65535, 65536, 1<<23 - 2, 1<<23 - 1} {
				checkWritten(t, c)
			}
			for _, *lost = range []int32{-1 << 31, -1<<31 + 1, -1 << 24, 1 - 1<<24, -1<<23 - 2, -1<<23 - 1, 1 << 23, 1<<23 + 1, 1<<24 - 1, 1 << 24, 1<<31 - 1} {
				checkRefused(t, c)
			}
		}
	}
}

func TestWriteNames(t *testing.T) {
	for at := range 3 {
		for size := range 40 {
			c := most(api.KindSDES, 3)
			c.Names[at] = api.Named{Source: 0x01020304, Name: strings.Repeat("~", size)}
			if size >= 1 && size <= 16 {
				checkWritten(t, c)
			} else {
				checkRefused(t, c)
			}
		}
		for _, name := range []string{" ", "a b", "a ", " a", "\x7f", "a\x00", "\xc3\xa9", "\xff", "é", "a\n", "\u2603", "\U0001F600"} {
			c := most(api.KindSDES, 3)
			c.Names[at].Name = name
			checkRefused(t, c)
		}
	}
}

func TestWriteRates(t *testing.T) {
	for exponent := range 64 {
		for _, mantissa := range rateMantissas() {
			if exponent+bits.Len(uint(mantissa)) > 64 {
				continue
			}
			rate := uint64(mantissa) << exponent
			c := api.Ctrl{Kind: api.KindRemb, Source: 3, Rate: rate}
			if rate >= 1<<63 {
				checkRefused(t, c)
				continue
			}
			checkWritten(t, c)
		}
	}
	// Each rate about what has room in a mantissa.
	for rate := uint64(1<<18 - 70); rate < 1<<18+70; rate++ {
		c := api.Ctrl{Kind: api.KindRemb, Rate: rate}
		if rate < 1<<18 || rate%2 == 0 {
			checkWritten(t, c)
		} else {
			checkRefused(t, c)
		}
	}
	for exponent := range 45 {
		for _, mantissa := range []uint64{1 << 17, 1<<18 - 1, 0x2AAAA} {
			// A bit below the lowest one of the mantissa has no room.
			for bit := range exponent {
				checkRefused(t, api.Ctrl{Kind: api.KindRemb, Rate: mantissa<<exponent | 1<<bit})
			}
		}
	}
	for _, rate := range []uint64{1 << 63, 1<<63 + 1, 1<<63 - 1, 1<<64 - 1, 3 << 62, 1<<62 + 1} {
		checkRefused(t, api.Ctrl{Kind: api.KindRemb, Rate: rate})
	}
}

func TestWriteHowMany(t *testing.T) {
	checkRefused(t)
	if b, e := rtcp.Write([]api.Ctrl{}); e != api.ErrArg || len(b) != 0 {
		t.Error(b, e)
	}
	for _, kind := range kinds() {
		for n := 1; n <= 40; n++ {
			l := slices.Repeat([]api.Ctrl{least(kind)}, n)
			if n <= 8 {
				checkWritten(t, l...)
				// One that may not be, at each place.
				for at := range n {
					bad := slices.Clone(l)
					bad[at].Rate, bad[at].Time = 1<<18+1, 1
					checkRefused(t, bad...)
				}
			} else {
				checkRefused(t, l...)
			}
		}
	}
}

func TestWriteTooLong(t *testing.T) {
	// Two of 412 bytes, and from 4 to 480 in the others.
	for sum := range 120 {
		l := []api.Ctrl{most(api.KindSR, 16), most(api.KindSR, 16)}
		size := 824
		for left := sum; left >= 0; left -= 17 {
			n := min(16, left)
			l = append(l, most(api.KindBye, n))
			size += 4 + 4*n
		}
		if len(l) > 8 {
			break
		}
		if size <= 1200 {
			checkWritten(t, l...)
		} else {
			checkRefused(t, l...)
		}
	}
	checkRefused(t, slices.Repeat([]api.Ctrl{most(api.KindSR, 16)}, 8)...)
	if b := checkWritten(t, most(api.KindSR, 16), most(api.KindSR, 16), most(api.KindRR, 15), api.Ctrl{Kind: api.KindBye}, api.Ctrl{Kind: api.KindBye}); len(b) != 1200 {
		t.Error(len(b))
	}
}

// Rule 5: nothing that is handed in is changed or kept.
func TestWriteIsNewMemory(t *testing.T) {
	var l []api.Ctrl
	for _, kind := range kinds() {
		l = append(l, sample(kind))
	}
	first := checkWritten(t, l...)
	second := checkWritten(t, l...)
	clear(first[:cap(first)])
	for i, kind := range kinds() {
		if !alike(l[i], sample(kind)) {
			t.Errorf("%+v", l[i])
		}
		clear(l[i].Reports)
		clear(l[i].Names)
		clear(l[i].Sources)
		clear(l[i].Losses)
		clear(l[i].Firs)
	}
	var want []byte
	for _, kind := range kinds() {
		want = append(want, modelWrite(sample(kind))...)
	}
	if !bytes.Equal(second, want) {
		t.Errorf("%x", second)
	}
}

// P11.4: there and back.

func TestWhatIsWrittenIsRead(t *testing.T) {
	r := rand.New(rand.NewSource(114))
	for range 20000 {
		checkWritten(t, anyCompound(r)...)
	}
}

func TestWhatIsReadIsWrittenAgain(t *testing.T) {
	r := rand.New(rand.NewSource(115))
	for range 20000 {
		b := modelWrite(anyCompound(r)...)
		b[r.Intn(len(b))] ^= 1 << r.Intn(8)
		l, e := rtcp.Read(b)
		if e != api.OK {
			continue
		}
		// But for a rate, which has its least exponent then, the bytes are the same.
		again := checkWritten(t, l...)
		rated := slices.ContainsFunc(l, func(c api.Ctrl) bool { return c.Kind == api.KindRemb })
		if !rated && !bytes.Equal(again, b) {
			t.Fatalf("%x is written as %x", b, again)
		}
	}
}

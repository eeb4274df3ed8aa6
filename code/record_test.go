package code_test

import (
	"bytes"
	"math"
	"math/rand"
	"strconv"
	"strings"
	"testing"

	"portreeve/api"
	"portreeve/code"
)

// knownOp is an op; recordOfKnown are its bytes, of generation 513 and number 29.
func knownOp() api.Op {
	return api.Op{Kind: 3, Id: 258, Link: 7, Addr: 167772161, User: "ab", In: 1 << 40, Out: 3, Cause: 200, At: 65536}
}

func recordOfKnown(t *testing.T) []byte {
	return spelt(t, 128,
		"5245 00000201 1d",
		"03 00000102 07 0a000001", "02 6162 0000000000000000000000000000", "0000010000000000 0000000000000003 c8 00010000",
	)
}

// isRecord holds a record against its bytes, both ways.
func isRecord(t *testing.T, what string, gen, seq int, o api.Op, want []byte) {
	t.Helper()
	if b, e := code.OpBytes(gen, seq, o); e != api.OK || !bytes.Equal(b, want) {
		t.Errorf("%s: OpBytes = %x, %d; want %x", what, b, e, want)
	}
	if g, s, p, e := code.ReadOp(want); e != api.OK || g != gen || s != seq || p != o {
		t.Errorf("%s: ReadOp = %d, %d, %+v, %d", what, g, s, p, e)
	}
}

// isNoRecord asks what must be none's record.
func isNoRecord(t *testing.T, what string, b []byte) {
	t.Helper()
	if gen, seq, o, e := code.ReadOp(b); e != api.ErrForm || gen != 0 || seq != 0 || o != (api.Op{}) {
		t.Errorf("%s: ReadOp = %d, %d, %+v, %d", what, gen, seq, o, e)
	}
}

// P5.1: records by hand.
func TestRecord(t *testing.T) {
	isRecord(t, "known", 513, 29, knownOp(), recordOfKnown(t))
	isRecord(t, "least", 1, 0, api.Op{Kind: 1, User: "\x00"}, spelt(t, 128, "5245 00000001 00 01 00000000 00 00000000 01"))
	isRecord(t, "greatest", 1000000000, 29,
		api.Op{Kind: 6, Id: 1000000000, Link: 7, Addr: math.MaxUint32, User: strings.Repeat("\xff", 16), In: math.MaxUint64, Out: math.MaxUint64, Cause: 255, At: 1000000000},
		spelt(t, 128, "5245 3b9aca00 1d 06 3b9aca00 07 ffffffff 10", strings.Repeat("ff", 16), strings.Repeat("ff", 16), "ff 3b9aca00"))
}

// P5.1: each number at the edges of its bytes, in its place.
func TestRecordNumbers(t *testing.T) {
	least := api.Op{Kind: 1, User: "u"}
	begin, id, mid := "5245 00000001 00", "01 00000000", "01 75 000000000000000000000000000000"
	rows := map[string]struct {
		gen, seq int
		op       func(o *api.Op)
		bytes    string
	}{
		"gen 255":   {255, 0, func(o *api.Op) {}, "5245 000000ff 00" + id + "00 00000000" + mid},
		"gen 256":   {256, 0, func(o *api.Op) {}, "5245 00000100 00" + id + "00 00000000" + mid},
		"gen 10^9":  {1000000000, 0, func(o *api.Op) {}, "5245 3b9aca00 00" + id + "00 00000000" + mid},
		"number 1":  {1, 1, func(o *api.Op) {}, "5245 00000001 01" + id + "00 00000000" + mid},
		"number 28": {1, 28, func(o *api.Op) {}, "5245 00000001 1c" + id + "00 00000000" + mid},
		"number 29": {1, 29, func(o *api.Op) {}, "5245 00000001 1d" + id + "00 00000000" + mid},
		"kind 2":    {1, 0, func(o *api.Op) { o.Kind = 2 }, begin + "02 00000000 00 00000000" + mid},
		"kind 6":    {1, 0, func(o *api.Op) { o.Kind = 6 }, begin + "06 00000000 00 00000000" + mid},
		"Id 1":      {1, 0, func(o *api.Op) { o.Id = 1 }, begin + "01 00000001 00 00000000" + mid},
		"Id 255":    {1, 0, func(o *api.Op) { o.Id = 255 }, begin + "01 000000ff 00 00000000" + mid},
		"Id 256":    {1, 0, func(o *api.Op) { o.Id = 256 }, begin + "01 00000100 00 00000000" + mid},
		"Id 10^9":   {1, 0, func(o *api.Op) { o.Id = 1000000000 }, begin + "01 3b9aca00 00 00000000" + mid},
		"link 1":    {1, 0, func(o *api.Op) { o.Link = 1 }, begin + id + "01 00000000" + mid},
		"link 7":    {1, 0, func(o *api.Op) { o.Link = 7 }, begin + id + "07 00000000" + mid},
		"Addr 1":    {1, 0, func(o *api.Op) { o.Addr = 1 }, begin + id + "00 00000001" + mid},
		"Addr 256":  {1, 0, func(o *api.Op) { o.Addr = 256 }, begin + id + "00 00000100" + mid},
		"Addr 2^31": {1, 0, func(o *api.Op) { o.Addr = 1 << 31 }, begin + id + "00 80000000" + mid},
		"Addr all":  {1, 0, func(o *api.Op) { o.Addr = math.MaxUint32 }, begin + id + "00 ffffffff" + mid},
		"In 1":      {1, 0, func(o *api.Op) { o.In = 1 }, begin + id + "00 00000000" + mid + "0000000000000001"},
		"In 255":    {1, 0, func(o *api.Op) { o.In = 255 }, begin + id + "00 00000000" + mid + "00000000000000ff"},
		"In 256":    {1, 0, func(o *api.Op) { o.In = 256 }, begin + id + "00 00000000" + mid + "0000000000000100"},
		"In 2^63":   {1, 0, func(o *api.Op) { o.In = 1 << 63 }, begin + id + "00 00000000" + mid + "8000000000000000"},
		"In all":    {1, 0, func(o *api.Op) { o.In = math.MaxUint64 }, begin + id + "00 00000000" + mid + "ffffffffffffffff"},
		"Out 1":     {1, 0, func(o *api.Op) { o.Out = 1 }, begin + id + "00 00000000" + mid + "0000000000000000 0000000000000001"},
		"Out 256":   {1, 0, func(o *api.Op) { o.Out = 256 }, begin + id + "00 00000000" + mid + "0000000000000000 0000000000000100"},
		"Out all":   {1, 0, func(o *api.Op) { o.Out = math.MaxUint64 }, begin + id + "00 00000000" + mid + "0000000000000000 ffffffffffffffff"},
		"Cause 1":   {1, 0, func(o *api.Op) { o.Cause = 1 }, begin + id + "00 00000000" + mid + "0000000000000000 0000000000000000 01"},
		"Cause 255": {1, 0, func(o *api.Op) { o.Cause = 255 }, begin + id + "00 00000000" + mid + "0000000000000000 0000000000000000 ff"},
		"At 1":      {1, 0, func(o *api.Op) { o.At = 1 }, begin + id + "00 00000000" + mid + "0000000000000000 0000000000000000 00 00000001"},
		"At 255":    {1, 0, func(o *api.Op) { o.At = 255 }, begin + id + "00 00000000" + mid + "0000000000000000 0000000000000000 00 000000ff"},
		"At 256":    {1, 0, func(o *api.Op) { o.At = 256 }, begin + id + "00 00000000" + mid + "0000000000000000 0000000000000000 00 00000100"},
		"At 10^9":   {1, 0, func(o *api.Op) { o.At = 1000000000 }, begin + id + "00 00000000" + mid + "0000000000000000 0000000000000000 00 3b9aca00"},
		"1 of all": {1, 1, func(o *api.Op) {
			*o = api.Op{Kind: 1, Id: 1, Link: 1, Addr: 1, User: "\x01", In: 1, Out: 1, Cause: 1, At: 1}
		}, "5245 00000001 01 01 00000001 01 00000001 01 01 000000000000000000000000000000 0000000000000001 0000000000000001 01 00000001"},
		"no address": {1, 0, func(o *api.Op) {}, begin + id + "00 00000000" + mid},
	}
	for what, x := range rows {
		o := least
		x.op(&o)
		isRecord(t, what, x.gen, x.seq, o, spelt(t, 128, x.bytes))
	}
}

// P5.1: names as long as may be, and such as a nought is in.
func TestRecordNames(t *testing.T) {
	for _, user := range []string{"u", "\x00", "u\x00", "\x00u", "a\x00b", "\xff\xfe", "é", strings.Repeat("u", 15), strings.Repeat("u", 15) + "\x00", strings.Repeat("u", 16), strings.Repeat("\x00", 15), strings.Repeat("\x00", 16)} {
		want := spelt(t, 128, "5245 00000001 00 01 00000000 00 00000000")
		want[17] = byte(len(user))
		for i := range len(user) {
			want[18+i] = user[i]
		}
		isRecord(t, strconv.Quote(user), 1, 0, api.Op{Kind: 1, User: user}, want)
	}
}

// P5.1: what has no record is told so, whatever else.
func TestOpBytesRefuses(t *testing.T) {
	refused := func(what string, gen, seq int, o api.Op) {
		t.Helper()
		if b, e := code.OpBytes(gen, seq, o); e != api.ErrArg || len(b) != 0 {
			t.Errorf("%s: OpBytes = %x, %d", what, b, e)
		}
	}
	for _, gen := range []int{0, -1, 1000000001, 1<<32 + 1, math.MinInt, math.MaxInt} {
		refused("generation", gen, 0, knownOp())
	}
	for _, seq := range []int{-1, 30, 31, 256, 257, math.MinInt, math.MaxInt} {
		refused("number", 1, seq, knownOp())
	}
	for name, o := range wrongOps() {
		refused(name, 1, 0, o)
	}
}

// P5.1, P5.4: bytes that aren't as many as a record's.
func TestReadOpLength(t *testing.T) {
	b := recordOfKnown(t)
	isNoRecord(t, "none", nil)
	isNoRecord(t, "empty", []byte{})
	for n := range b {
		isNoRecord(t, "too short", b[:n])
	}
	isNoRecord(t, "one more", append(bytes.Clone(b), 0))
	isNoRecord(t, "twice", append(bytes.Clone(b), b...))
	isNoRecord(t, "without its first byte", b[1:])
	isNoRecord(t, "noughts", make([]byte, 128))
	isNoRecord(t, "a head", spelt(t, 128, "4844 00000201"))
	isNoRecord(t, "a snapshot", make([]byte, 2048))
}

// P5.1: bytes that are a record but for one thing.
func TestReadOpRefuses(t *testing.T) {
	b := recordOfKnown(t)
	rows := map[string]struct {
		at   int
		byte byte
	}{
		"another first letter":        {0, 'H'},
		"a small first letter":        {0, 'r'},
		"another second letter":       {1, 'D'},
		"generation above 10^9":       {2, 0x3c},
		"generation with a high bit":  {2, 0x80},
		"generation all high":         {2, 0xff},
		"number 30":                   {6, 30},
		"number 255":                  {6, 255},
		"kind 0":                      {7, 0},
		"kind 7":                      {7, 7},
		"kind 255":                    {7, 255},
		"Id above 10^9":               {8, 0x3c},
		"Id with a high bit":          {8, 0x80},
		"link 8":                      {12, 8},
		"link 255":                    {12, 255},
		"name of 0 bytes":             {17, 0},
		"name of less than there are": {17, 1},
		"name of 17 bytes":            {17, 17},
		"name of 18 bytes":            {17, 18},
		"name of 128 bytes":           {17, 128},
		"name of 255 bytes":           {17, 255},
		"behind the name":             {20, 1},
		"at the name's end":           {33, 1},
		"At above 10^9":               {51, 0x3c},
		"At with a high bit":          {51, 0x80},
		"behind all":                  {55, 1},
		"in the midst of noughts":     {90, 0x80},
		"the last byte":               {127, 1},
	}
	for what, x := range rows {
		isNoRecord(t, what, withByte(b, x.at, x.byte))
	}
	isNoRecord(t, "generation 0", spelt(t, 128, "5245 00000000 00 01 00000000 00 00000000 01 75"))
	isNoRecord(t, "generation 10^9 and 1", spelt(t, 128, "5245 3b9aca01 00 01 00000000 00 00000000 01 75"))
	isNoRecord(t, "Id 10^9 and 1", spelt(t, 128, "5245 00000001 00 01 3b9aca01 00 00000000 01 75"))
	isNoRecord(t, "At 10^9 and 1", spelt(t, 128, "5245 00000001 00 01 00000000 00 00000000 01 75 000000000000000000000000000000", "0000000000000000 0000000000000000 00 3b9aca01"))
	isNoRecord(t, "a name of nothing", spelt(t, 128, "5245 00000001 00 01"))
}

// P5.1, P5.4: a record with any byte at each place is what the chapter says of it.
func TestReadOpEachByte(t *testing.T) {
	least, _ := code.OpBytes(1, 0, api.Op{Kind: 1, User: "u"})
	great, _ := code.OpBytes(1000000000, 28, api.Op{Kind: 6, Id: 1000000000, Link: 3, User: strings.Repeat("u", 16), At: 1000000000})
	for _, b := range [][]byte{recordOfKnown(t), least, great, make([]byte, 128)} {
		for at := range b {
			for x := range 256 {
				readsAsSaid(t, withByte(b, at, byte(x)))
			}
		}
	}
}

// readsAsSaid holds ReadOp against the tests' own reading, and what is told back against the bytes.
func readsAsSaid(t *testing.T, b []byte) {
	t.Helper()
	want, ok := recordOf(b)
	if !ok {
		isNoRecord(t, "no record", b)
		return
	}
	gen, seq, o, e := code.ReadOp(b)
	if e != api.OK || (told{gen, seq, o}) != want {
		t.Errorf("ReadOp(%x) = %d, %d, %+v, %d", b, gen, seq, o, e)
	}
	if again, e := code.OpBytes(gen, seq, o); e != api.OK || !bytes.Equal(again, b) {
		t.Errorf("ReadOp(%x) has %x, %d", b, again, e)
	}
}

// P5.4: what is told as bytes is told back.
func TestRecordsBack(t *testing.T) {
	r := rand.New(rand.NewSource(51))
	for range 3000 {
		gen, seq, o := 1+r.Intn(1000000000)>>r.Intn(30), r.Intn(30), drawn(r)
		b, e := code.OpBytes(gen, seq, o)
		if want, ok := recordOf(b); e != api.OK || !ok || want != (told{gen, seq, o}) {
			t.Errorf("OpBytes(%d, %d, %+v) = %x, %d", gen, seq, o, b, e)
		}
		readsAsSaid(t, b)
		for range 3 {
			b[r.Intn(128)] = byte(r.Intn(256))
			readsAsSaid(t, b)
		}
	}
}

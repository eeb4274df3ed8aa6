package disk_test

import (
	"bytes"
	"fmt"
	"math/rand"
	"slices"
	"testing"

	"portreeve/api"
	"portreeve/disk"
)

// plain is a disk's sectors as one value: the tests reckon by it, so that they don't repeat the package's own way.
type plain [api.Sectors][api.Sector]byte

// plainOf are the sectors of a disk as they stay, whatever isn't flushed.
func plainOf(d api.Disk) plain {
	var p plain
	for at, b := range d.S {
		p[at] = [api.Sector]byte(b)
	}
	return p
}

// done are sectors behind those of the writes that are kept.
func done(p plain, writes []api.Put, kept func(i int) bool) plain {
	for i, w := range writes {
		if kept(i) {
			p[w.At] = [api.Sector]byte(w.B)
		}
	}
	return p
}

func all(int) bool { return true }

// keeps is whether keep says yes of i.
func keeps(keep []bool) func(i int) bool {
	return func(i int) bool { return i < len(keep) && keep[i] }
}

// sector is bytes of a sector that tell c at each place.
func sector(c byte) []byte { return bytes.Repeat([]byte{c}, api.Sector) }

// drawn is bytes of a sector, drawn.
func drawn(r *rand.Rand) []byte {
	b := make([]byte, api.Sector)
	r.Read(b)
	return b
}

// written is a disk behind writes, all of which must fit.
func written(t *testing.T, d api.Disk, writes ...api.Put) api.Disk {
	t.Helper()
	for _, w := range writes {
		next, e := disk.Write(d, w.At, w.B)
		if e != api.OK {
			t.Fatalf("Write of sector %d: %d", w.At, e)
		}
		d = next
	}
	return d
}

// some are a few writes, some of them of the same sector, and of the first and the last one.
func some() []api.Put {
	return []api.Put{
		{At: 3, B: sector(1)}, {At: 0, B: sector(2)}, {At: 3, B: sector(3)},
		{At: 63, B: sector(4)}, {At: 3, B: sector(5)}, {At: 0, B: sector(6)},
	}
}

// clone is a disk in memory of its own.
func clone(d api.Disk) api.Disk {
	var out api.Disk
	for _, b := range d.S {
		out.S = append(out.S, bytes.Clone(b))
	}
	for _, w := range d.W {
		out.W = append(out.W, api.Put{At: w.At, B: bytes.Clone(w.B)})
	}
	return out
}

// alike are two disks that are the same, as the tests see it.
func alike(a, b api.Disk) bool {
	return slices.EqualFunc(a.S, b.S, bytes.Equal) && sameWrites(a.W, b.W)
}

func sameWrites(a, b []api.Put) bool {
	return slices.EqualFunc(a, b, func(x, y api.Put) bool { return x.At == y.At && bytes.Equal(x.B, y.B) })
}

// samples are disks that are right: new ones, with a few writes, flushed, and drawn ones, the same in every run.
func samples(t *testing.T) []api.Disk {
	few := written(t, disk.New(), some()...)
	out := []api.Disk{disk.New(), few, disk.Flush(few), written(t, disk.Flush(few), some()[:2]...)}
	r := rand.New(rand.NewSource(3))
	for n := range 40 {
		d := disk.New()
		for at := range d.S {
			d.S[at] = drawn(r)
		}
		for range n {
			// A few sectors alone, so that many are written more than once.
			d = written(t, d, api.Put{At: r.Intn(1+n%5) * 13, B: drawn(r)})
		}
		out = append(out, d)
	}
	return out
}

// keepsOf are rows by which a disk of n writes may crash: the edges first, then drawn ones.
func keepsOf(n int) [][]bool {
	yes := slices.Repeat([]bool{true}, n+3)
	out := [][]bool{nil, {}, make([]bool, n), make([]bool, n+3), yes[:n], yes, yes[:n/2], append(make([]bool, n/2), yes[:n-n/2]...)}
	r := rand.New(rand.NewSource(int64(n)))
	for i := range 12 {
		keep := make([]bool, max(0, n+i%5-2))
		for j := range keep {
			keep[j] = r.Intn(2) == 0
		}
		out = append(out, keep)
	}
	return out
}

// P3.1: a new disk is noughts, with no write, and is right.
func TestNew(t *testing.T) {
	d := disk.New()
	if len(d.S) != 64 || len(d.W) != 0 || !disk.Right(d) {
		t.Fatalf("New has %d sectors and %d writes", len(d.S), len(d.W))
	}
	for at, b := range d.S {
		if !bytes.Equal(b, make([]byte, 128)) {
			t.Errorf("New's sector %d is %x", at, b)
		}
	}
	if other := disk.New(); !disk.Same(d, other) {
		t.Error("New isn't the same as New")
	}
}

// P3.1: what chapter 3 says of a disk that is right, to the edges.
func TestRight(t *testing.T) {
	for i, d := range samples(t) {
		if !disk.Right(d) {
			t.Errorf("sample %d isn't right", i)
		}
	}
	for at := range api.Sectors {
		if d := (api.Disk{S: disk.New().S, W: []api.Put{{At: at, B: sector(1)}}}); !disk.Right(d) {
			t.Errorf("a write of sector %d isn't right", at)
		}
	}
	if disk.Right(api.Disk{}) || disk.Right(api.Disk{W: some()}) {
		t.Error("a disk without sectors is right")
	}
}

// wrongs are disks that aren't right, by what is wrong of them.
func wrongs() map[string]api.Disk {
	out := map[string]api.Disk{
		"nothing":       {},
		"no sector":     {W: some()},
		"one too few":   {S: disk.New().S[:63], W: some()[:1]},
		"one too many":  {S: append(disk.New().S, sector(0))},
		"only one":      {S: [][]byte{sector(0)}, W: []api.Put{{At: 0, B: sector(1)}, {At: 1, B: sector(1)}}},
		"twice as many": {S: append(disk.New().S, disk.New().S...)},
	}
	for name, at := range map[string]int{"first": 0, "middle": 31, "last": 63} {
		for of, b := range map[string][]byte{"none": nil, "empty": {}, "short": make([]byte, 127), "long": make([]byte, 129)} {
			d := disk.New()
			d.S[at] = b
			d.W = []api.Put{{At: at, B: sector(7)}}
			out[name+" sector "+of] = d
			for place := range 3 {
				w := some()[:3]
				w[place] = api.Put{At: at, B: b}
				out[fmt.Sprint(name, " write ", of, " as ", place)] = api.Disk{S: disk.New().S, W: w}
			}
		}
	}
	for _, at := range []int{-1, 64, 65, -64, 128, 1 << 40, -1 << 62} {
		for place := range 3 {
			w := some()[:3]
			w[place].At = at
			out[fmt.Sprint("write of sector ", at, " as ", place)] = api.Disk{S: disk.New().S, W: w}
		}
	}
	return out
}

// P3.1: disks that aren't right, a thing at a time.
func TestNotRight(t *testing.T) {
	for name, d := range wrongs() {
		if disk.Right(d) {
			t.Errorf("%s: right", name)
		}
	}
}

// R1, R3: no call panics at a disk that isn't right, nor writes into it, and errors are told as ever.
func TestNotRightEnds(t *testing.T) {
	for name, d := range wrongs() {
		was := clone(d)
		for _, at := range []int{-1, 0, 1, 31, 62, 63, 64, 127} {
			b, e := disk.Read(d, at)
			if e != api.OK && b != nil {
				t.Errorf("%s: Read(%d) = %x, %d", name, at, b, e)
			}
			if (at < 0 || at > 63 || at >= len(d.S)) && e != api.ErrArg {
				t.Errorf("%s: Read(%d) = %d", name, at, e)
			}
			if x, e := disk.Write(d, at, sector(1)[1:]); e != api.ErrArg || !disk.Same(x, d) {
				t.Errorf("%s: Write(%d) of too little = %d", name, at, e)
			}
			disk.Write(d, at, sector(1))
		}
		for _, keep := range keepsOf(len(d.W)) {
			disk.Crash(d, keep)
		}
		disk.Flush(d)
		if !disk.Same(d, d) || !alike(d, was) {
			t.Errorf("%s: not the same as it was", name)
		}
	}
}

// P3.1: disks are the same, whatever memory they are in, and whether a row without elements is nil.
func TestSame(t *testing.T) {
	for i, a := range samples(t) {
		if !disk.Same(a, a) || !disk.Same(a, clone(a)) || !disk.Same(clone(a), a) {
			t.Errorf("sample %d isn't the same as itself", i)
		}
		for j, b := range samples(t) {
			if got := disk.Same(a, b); got != alike(a, b) {
				t.Errorf("Same of samples %d and %d = %t", i, j, got)
			}
		}
	}
	d := disk.New()
	if !disk.Same(api.Disk{S: d.S}, api.Disk{S: d.S, W: []api.Put{}}) || !disk.Same(api.Disk{}, api.Disk{S: [][]byte{}}) {
		t.Error("a row without elements isn't the same as nil")
	}
}

// P3.1: disks that differ by one byte, one write, one sector's number, or the order of two writes.
func TestNotSame(t *testing.T) {
	d := written(t, disk.New(), some()...)
	differ := func(name string, x api.Disk) {
		if disk.Same(d, x) || disk.Same(x, d) {
			t.Errorf("%s: the same", name)
		}
	}
	for at := range d.S {
		for _, i := range []int{0, at, 127} {
			x := clone(d)
			x.S[at][i] ^= 1
			differ("a byte of a sector", x)
		}
	}
	for i := range d.W {
		for _, j := range []int{0, 64, 127} {
			x := clone(d)
			x.W[i].B[j] ^= 128
			differ("a byte of a write", x)
		}
		x := clone(d)
		x.W[i].At = 40
		differ("a write's sector", x)
		x = clone(d)
		x.W = slices.Delete(x.W, i, i+1)
		differ("a write less", x)
		x = clone(d)
		x.W = slices.Insert(x.W, i, x.W[i])
		differ("a write twice", x)
		for j := range i {
			x = clone(d)
			x.W[i], x.W[j] = x.W[j], x.W[i]
			differ("two writes' order", x)
		}
	}
	differ("no write", api.Disk{S: d.S})
	differ("flushed", disk.Flush(d))
	differ("crashed", disk.Crash(d, nil))
	differ("a sector less", api.Disk{S: d.S[:63], W: d.W})
	differ("a sector more", api.Disk{S: append(clone(d).S, sector(0)), W: d.W})
	differ("no sector", api.Disk{W: d.W})
}

// P3.1, P3.3: two writes of other sectors differ by their order as well, though they come to the same when they are done.
func TestOrderOfOtherSectors(t *testing.T) {
	one, other := api.Put{At: 5, B: sector(1)}, api.Put{At: 6, B: sector(2)}
	a, b := written(t, disk.New(), one, other), written(t, disk.New(), other, one)
	if disk.Same(a, b) {
		t.Error("the order of writes isn't told")
	}
	if !disk.Same(disk.Flush(a), disk.Flush(b)) {
		t.Error("the order of writes of other sectors is told behind a flush")
	}
}

// P3.2: a write stands behind the others, and the sectors stay till it is flushed.
func TestWrite(t *testing.T) {
	for i, d := range samples(t) {
		for _, at := range []int{0, 1, 31, 62, 63} {
			x, e := disk.Write(d, at, sector(byte(at+100)))
			want := append(clone(d).W, api.Put{At: at, B: sector(byte(at + 100))})
			if e != api.OK || plainOf(x) != plainOf(d) || !sameWrites(x.W, want) {
				t.Errorf("sample %d: Write(%d) = %d, with %d writes", i, at, e, len(x.W))
			}
			if !disk.Right(x) {
				t.Errorf("sample %d: not right behind Write(%d)", i, at)
			}
		}
	}
}

// P3.2: what is no sector, or isn't as long as one, gives ErrArg and the disk as it was.
func TestWriteWrong(t *testing.T) {
	for i, d := range samples(t) {
		for _, at := range []int{-1, 64, 65, 127, 128, -64, 1 << 40, -1 << 62} {
			for _, b := range [][]byte{nil, sector(1), sector(1)[:127]} {
				if x, e := disk.Write(d, at, b); e != api.ErrArg || !alike(x, d) {
					t.Errorf("sample %d: Write(%d) of %d bytes = %d", i, at, len(b), e)
				}
			}
		}
		for _, at := range []int{0, 30, 63} {
			for _, n := range []int{0, 1, 64, 127, 129, 256} {
				if x, e := disk.Write(d, at, make([]byte, n)); e != api.ErrArg || !alike(x, d) {
					t.Errorf("sample %d: Write(%d) of %d bytes = %d", i, at, n, e)
				}
			}
			if x, e := disk.Write(d, at, nil); e != api.ErrArg || !alike(x, d) {
				t.Errorf("sample %d: Write(%d) of nothing = %d", i, at, e)
			}
		}
	}
}

// P3.2: of writes of the same sector the last is read, and of those that there are none the sector.
func TestReadKnown(t *testing.T) {
	d := written(t, disk.New(), some()...)
	for at, want := range map[int]byte{0: 6, 1: 0, 2: 0, 3: 5, 4: 0, 62: 0, 63: 4} {
		for name, x := range map[string]api.Disk{"ahead of": d, "behind": disk.Flush(d)} {
			if b, e := disk.Read(x, at); e != api.OK || !bytes.Equal(b, sector(want)) {
				t.Errorf("Read(%d) %s a flush = %x, %d", at, name, b, e)
			}
		}
	}
}

// P3.2, P3.4: what is read is what all writes come to, ahead of a flush and behind it.
func TestRead(t *testing.T) {
	for i, d := range samples(t) {
		want := done(plainOf(d), d.W, all)
		flushed := disk.Flush(d)
		for at := range api.Sectors {
			b, e := disk.Read(d, at)
			if e != api.OK || !bytes.Equal(b, want[at][:]) {
				t.Errorf("sample %d: Read(%d) = %x, %d", i, at, b, e)
			}
			if x, e := disk.Read(flushed, at); e != api.OK || !bytes.Equal(x, b) {
				t.Errorf("sample %d: Read(%d) behind a flush = %x, %d", i, at, x, e)
			}
		}
	}
}

// P3.2: what is no sector isn't read.
func TestReadWrong(t *testing.T) {
	for i, d := range samples(t) {
		for _, at := range []int{-1, 64, 65, 127, 128, -64, 1 << 40, -1 << 62} {
			if b, e := disk.Read(d, at); e != api.ErrArg || b != nil {
				t.Errorf("sample %d: Read(%d) = %x, %d", i, at, b, e)
			}
		}
	}
}

// P3.2: behind a flush all writes are done, in order, and none is left.
func TestFlush(t *testing.T) {
	for i, d := range samples(t) {
		x := disk.Flush(d)
		if len(x.W) != 0 || !disk.Right(x) || plainOf(x) != done(plainOf(d), d.W, all) {
			t.Errorf("sample %d: Flush left %d writes, or isn't what they come to", i, len(x.W))
		}
	}
}

// P3.3: behind a crash those writes are done that are kept, in order, and none is left.
func TestCrash(t *testing.T) {
	for i, d := range samples(t) {
		for _, keep := range keepsOf(len(d.W)) {
			x := disk.Crash(d, keep)
			if len(x.W) != 0 || !disk.Right(x) || plainOf(x) != done(plainOf(d), d.W, keeps(keep)) {
				t.Errorf("sample %d: Crash by %v isn't what the kept writes come to", i, keep)
			}
		}
	}
}

// P3.3: two writes of one sector, of which the earlier, the later, both or none is kept.
func TestCrashOfOneSector(t *testing.T) {
	d := written(t, disk.New(), api.Put{At: 9, B: sector(1)}, api.Put{At: 9, B: sector(2)})
	known := []struct {
		keep []bool
		want byte
	}{
		{nil, 0}, {[]bool{}, 0}, {[]bool{false}, 0}, {[]bool{false, false}, 0},
		{[]bool{true}, 1}, {[]bool{true, false}, 1}, {[]bool{true, false, true}, 1},
		{[]bool{false, true}, 2}, {[]bool{true, true}, 2}, {[]bool{true, true, true, false}, 2},
		{[]bool{false, false, true, true}, 0},
	}
	for _, k := range known {
		x := disk.Crash(d, k.keep)
		if b, e := disk.Read(x, 9); e != api.OK || !bytes.Equal(b, sector(k.want)) || len(x.W) != 0 {
			t.Errorf("Crash by %v: %x, %d", k.keep, b, e)
		}
	}
}

// P3.3: the chapter's own example.
func TestCrashOfExample(t *testing.T) {
	x := disk.Crash(written(t, disk.New(), api.Put{At: 3, B: sector(1)}), nil)
	if b, e := disk.Read(x, 3); e != api.OK || !bytes.Equal(b, make([]byte, 128)) || !disk.Same(x, disk.New()) {
		t.Errorf("sector 3 is %x, %d", b, e)
	}
}

// P3.4: behind a crash each sector has what it had, or what one of its writes says.
func TestCrashInvents(t *testing.T) {
	for i, d := range samples(t) {
		for _, keep := range keepsOf(len(d.W)) {
			x := disk.Crash(d, keep)
			for at, b := range x.S {
				ok := bytes.Equal(b, d.S[at])
				for _, w := range d.W {
					ok = ok || w.At == at && bytes.Equal(b, w.B)
				}
				if !ok {
					t.Errorf("sample %d: Crash by %v: sector %d is %x", i, keep, at, b)
				}
			}
		}
	}
}

// P3.4: with all kept a crash is a flush, and a flushed disk doesn't change.
func TestCrashAndFlush(t *testing.T) {
	for i, d := range samples(t) {
		flushed := disk.Flush(d)
		for _, more := range []int{0, 1, 100} {
			if !disk.Same(disk.Crash(d, slices.Repeat([]bool{true}, len(d.W)+more)), flushed) {
				t.Errorf("sample %d: a crash with all kept, and %d more, isn't a flush", i, more)
			}
		}
		for _, keep := range keepsOf(len(d.W)) {
			if !disk.Same(disk.Crash(flushed, keep), flushed) {
				t.Errorf("sample %d: Crash by %v changes a flushed disk", i, keep)
			}
		}
		if !disk.Same(disk.Flush(flushed), flushed) {
			t.Errorf("sample %d: Flush changes a flushed disk", i)
		}
	}
}

// answers are all disks that the package hands out of a disk, of bytes, and of what is kept.
func answers(t *testing.T, d api.Disk, b []byte, keep []bool) map[string]api.Disk {
	good, e := disk.Write(d, 7, b)
	if e != api.OK {
		t.Fatal(e)
	}
	bad, e := disk.Write(d, 64, b)
	if e != api.ErrArg {
		t.Fatal(e)
	}
	short, e := disk.Write(d, 7, b[:127])
	if e != api.ErrArg {
		t.Fatal(e)
	}
	read := api.Disk{}
	for at := range api.Sectors {
		x, e := disk.Read(d, at)
		if e != api.OK {
			t.Fatal(e)
		}
		read.S = append(read.S, x)
	}
	return map[string]api.Disk{
		"Write": good, "Write of no sector": bad, "Write of too little": short, "Read": read,
		"Flush": disk.Flush(d), "Crash": disk.Crash(d, keep), "Crash of all": disk.Crash(d, nil), "New": disk.New(),
	}
}

// spoil writes into all memory that a disk has, its spare room too.
func spoil(d api.Disk) {
	for _, b := range d.S[:cap(d.S)] {
		b = b[:cap(b)]
		for i := range b {
			b[i] ^= 0xFF
		}
	}
	for _, w := range d.W[:cap(d.W)] {
		b := w.B[:cap(w.B)]
		for i := range b {
			b[i] ^= 0xFF
		}
	}
	clear(d.S[:cap(d.S)])
	clear(d.W[:cap(d.W)])
}

// roomy is a disk in memory with spare room behind all its rows, and whether all of that memory, the room too, is as it was.
func roomy(d api.Disk) (api.Disk, func() bool) {
	var whole api.Disk
	for _, b := range d.S {
		whole.S = append(whole.S, append(bytes.Clone(b), sector('x')...))
	}
	for _, w := range d.W {
		whole.W = append(whole.W, api.Put{At: w.At, B: append(bytes.Clone(w.B), sector('x')...)})
	}
	whole.S = append(whole.S, sector('y'))
	whole.W = append(whole.W, api.Put{At: 2, B: sector('z')})
	part := api.Disk{S: slices.Clone(whole.S), W: slices.Clone(whole.W)}
	for i := range d.S {
		part.S[i] = part.S[i][:api.Sector]
	}
	for i := range d.W {
		part.W[i].B = part.W[i].B[:api.Sector]
	}
	wholeWas, partWas := clone(whole), clone(part)
	untouched := func() bool { return alike(whole, wholeWas) && alike(part, partWas) }
	return api.Disk{S: part.S[:len(d.S)], W: part.W[:len(d.W)]}, untouched
}

// R3: nothing is written into what is handed in, nor into the spare room behind it, and nothing that is handed out shares memory with it.
func TestLeavesItsArguments(t *testing.T) {
	for i, d := range samples(t) {
		mine, untouched := roomy(d)
		room := append(sector(200), sector('x')...)
		keep := slices.Repeat([]bool{true, false}, len(d.W))
		for name, x := range answers(t, mine, room[:api.Sector], keep[:len(d.W)]) {
			spoil(x)
			if !untouched() || !bytes.Equal(room, append(sector(200), sector('x')...)) {
				t.Fatalf("sample %d: %s wrote into what was handed in, or shares its memory", i, name)
			}
		}
		if !slices.Equal(keep, slices.Repeat([]bool{true, false}, len(d.W))) {
			t.Errorf("sample %d: what is kept was written into", i)
		}
	}
}

// R3: what is handed out stays as it is when what was handed in is written into.
func TestKeepsNothing(t *testing.T) {
	for i, d := range samples(t) {
		mine, b := clone(d), sector(200)
		keep := slices.Repeat([]bool{true}, len(d.W))
		got := answers(t, mine, b, keep)
		want := answers(t, clone(d), sector(200), slices.Clone(keep))
		spoil(mine)
		spoil(api.Disk{S: [][]byte{b}})
		clear(keep)
		for name, x := range got {
			if !alike(x, want[name]) {
				t.Errorf("sample %d: %s changed with what was handed in", i, name)
			}
		}
	}
}

// R3: no two rows of what is handed out share memory, even where those that were handed in do.
func TestRowsApart(t *testing.T) {
	one := sector(9)
	d := api.Disk{S: slices.Repeat([][]byte{one}, api.Sectors), W: slices.Repeat([]api.Put{{At: 4, B: one}}, 5)}
	for name, x := range answers(t, d, one, []bool{true, true, false}) {
		var rows [][]byte
		rows = append(rows, x.S...)
		for _, w := range x.W {
			rows = append(rows, w.B)
		}
		for i, b := range rows {
			b = b[:cap(b)]
			for j := range b {
				b[j] = byte(i + 1)
			}
		}
		for i, b := range rows {
			if !bytes.Equal(b, sector(byte(i+1))) {
				t.Errorf("%s: row %d shares memory with another", name, i)
			}
		}
		if !bytes.Equal(one, sector(9)) {
			t.Fatalf("%s shares memory with what was handed in", name)
		}
	}
}

// R3: two disks of one stay apart: a write of the one isn't seen in the other.
func TestBranchesApart(t *testing.T) {
	for i, d := range samples(t) {
		a := written(t, d, api.Put{At: 1, B: sector(1)})
		b := written(t, d, api.Put{At: 1, B: sector(2)})
		one, _ := disk.Read(a, 1)
		other, _ := disk.Read(b, 1)
		if !bytes.Equal(one, sector(1)) || !bytes.Equal(other, sector(2)) {
			t.Errorf("sample %d: two writes of it are one", i)
		}
	}
}

// R4: what is answered hangs on the arguments alone: asked again, it is the same.
func TestAgain(t *testing.T) {
	for i, d := range samples(t) {
		keep := slices.Repeat([]bool{false, true}, len(d.W))
		first := answers(t, d, sector(8), keep)
		for name, x := range answers(t, d, sector(8), keep) {
			if !alike(x, first[name]) {
				t.Errorf("sample %d: %s answers otherwise when asked again", i, name)
			}
		}
	}
}

// P3.2, P3.3: long rows of writes, flushes and crashes, held against sectors reckoned by hand.
func TestLongRuns(t *testing.T) {
	r := rand.New(rand.NewSource(4))
	for range 30 {
		d := disk.New()
		var stays plain
		var writes []api.Put
		for range 80 {
			switch r.Intn(8) {
			case 0:
				d, stays, writes = disk.Flush(d), done(stays, writes, all), nil
			case 1:
				keep := keepsOf(len(writes))[r.Intn(20)]
				d, stays, writes = disk.Crash(d, keep), done(stays, writes, keeps(keep)), nil
			default:
				w := api.Put{At: r.Intn(6) * 12, B: drawn(r)}
				d, writes = written(t, d, w), append(writes, w)
			}
			if plainOf(d) != stays || !sameWrites(d.W, writes) || !disk.Right(d) {
				t.Fatal("a disk isn't what was done to it")
			}
			at := r.Intn(api.Sectors)
			now := done(stays, writes, all)
			if b, e := disk.Read(d, at); e != api.OK || !bytes.Equal(b, now[at][:]) {
				t.Fatalf("Read(%d) = %x, %d", at, b, e)
			}
		}
	}
}

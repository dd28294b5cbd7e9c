package crc

import (
	"bytes"
	"hash/crc32"
	"math"
	"math/rand"
	"testing"
)

// known pairs texts with their sums, as they are told of CRC-32 elsewhere.
var known = []struct {
	text string
	want uint32
}{
	{"", 0x00000000},
	{"123456789", 0xcbf43926},
	{"a", 0xe8b7be43},
	{"abc", 0x352441c2},
	{"message digest", 0x20159d7f},
	{"abcdefghijklmnopqrstuvwxyz", 0x4c2750bd},
	{"The quick brown fox jumps over the lazy dog", 0x414fa339},
	{"\x00", 0xd202ef8d},
	{"\x00\x00\x00\x00", 0x2144df1c},
	{"\xff", 0xff000000},
	{"\xff\xff\xff\xff", 0xffffffff},
	{"\x00\x00\x00\x00\x00\x00\x00\x00\x00\x00\x00\x00\x00\x00\x00\x00\x00\x00\x00\x00\x00\x00\x00\x00\x00\x00\x00\x00\x00\x00\x00\x00", 0x190a55ad},
}

// anySums are sums at the edges of 32 bits, a bit each, and some others.
func anySums() []uint32 {
	sums := []uint32{0, math.MaxUint32, 2, 5, 0x7fffffff, 0x80000001, 0xfffffffe, 0xedb88320, 0x12477cdf, 0xcbf43926, 0x55555555, 0xaaaaaaaa, 0x0000ffff, 0xffff0000}
	for i := range 32 {
		sums = append(sums, 1<<i)
	}
	return sums
}

// told answers the sum of b in just the steps that the chapter's words tell.
func told(b []byte) uint32 {
	sum := uint32(0xffffffff)
	for _, c := range b {
		lowest := byte(sum) ^ c
		sum = sum&0xffffff00 | uint32(lowest)
		for range 8 {
			fell := sum % 2
			sum /= 2
			if fell == 1 {
				sum ^= 0xedb88320
			}
		}
	}
	return ^sum
}

// ending answers b and four bytes behind it, that all together have that sum: any
// sum is one of bytes, and of n bytes for each n from 4 on. The steps are undone
// from the sum on, and what stood there four bytes ago is held against what b left.
func ending(b []byte, sum uint32) []byte {
	before := ^sum
	for range 32 {
		// Of a step's result the highest bit tells whether a bit fell out, as that of
		// what was shifted is 0, and the one of edb88320 is 1.
		if before>>31 == 1 {
			before = (before^0xedb88320)<<1 | 1
		} else {
			before <<= 1
		}
	}
	before ^= ^told(b)
	return append(bytes.Clone(b), byte(before), byte(before>>8), byte(before>>16), byte(before>>24))
}

// having answers four bytes of that sum.
func having(sum uint32) []byte { return ending(nil, sum) }

// random answers n bytes made at random.
func random(r *rand.Rand, n int) []byte {
	b := make([]byte, n)
	r.Read(b)
	return b
}

// The tests' own helper holds: there are bytes of each sum.
func TestHaving(t *testing.T) {
	r := rand.New(rand.NewSource(1))
	for _, sum := range anySums() {
		for n := range 9 {
			b := ending(random(r, n), sum)
			if len(b) != n+4 || told(b) != sum {
				t.Errorf("ending(%d bytes, %x) = %x, whose sum is %x", n, sum, b, told(b))
			}
		}
	}
}

// checkSum asks all that is asked of bytes alone.
func checkSum(t *testing.T, b []byte) {
	t.Helper()
	want := told(b)
	if got := Sum(b); got != want || got != crc32.ChecksumIEEE(b) {
		t.Errorf("Sum(%d bytes, %.40x) = %08x, want %08x", len(b), b, got, want)
	}
	if got := Update(0, b); got != want {
		t.Errorf("Update(0, %d bytes, %.40x) = %08x, want %08x", len(b), b, got, want)
	}
}

// P14.1: the sums that are known from elsewhere, and the chapter's example.
func TestKnown(t *testing.T) {
	for _, c := range known {
		if got := Sum([]byte(c.text)); got != c.want {
			t.Errorf("Sum(%q) = %08x, want %08x", c.text, got, c.want)
		}
		checkSum(t, []byte(c.text))
	}
	if got := Sum([]byte("123456789")); got != 0xcbf43926 {
		t.Errorf("the chapter's example: %08x", got)
	}
}

// P14.1: no bytes, be they nil or empty, have the sum 0.
func TestNoBytes(t *testing.T) {
	for _, b := range [][]byte{nil, {}, make([]byte, 0, 9), []byte("abc")[3:]} {
		if got := Sum(b); got != 0 {
			t.Errorf("Sum(%#v) = %08x, want 0", b, got)
		}
	}
}

// P14.1: one byte, two bytes, each of them any.
func TestFewBytes(t *testing.T) {
	for a := range 256 {
		checkSum(t, []byte{byte(a)})
		for b := range 256 {
			checkSum(t, []byte{byte(a), byte(b)})
		}
	}
}

// P14.1: bytes of one kind only, zeros and ones among them, of any length.
func TestSameBytes(t *testing.T) {
	for _, c := range []byte{0x00, 0xff, 0x01, 0x80, 0x55, 0xaa} {
		for n := range 300 {
			checkSum(t, bytes.Repeat([]byte{c}, n))
		}
		for _, n := range []int{4095, 4096, 4097, 65535, 65536, 65537} {
			checkSum(t, bytes.Repeat([]byte{c}, n))
		}
	}
}

// P14.1: bytes made at random, long ones too.
func TestRandomBytes(t *testing.T) {
	r := rand.New(rand.NewSource(2))
	for n := range 1000 {
		checkSum(t, random(r, n))
	}
	for _, n := range []int{1<<16 + 3, 1<<20 - 1, 1<<22 + 5} {
		checkSum(t, random(r, n))
	}
}

// P14.1: the table of four steps at once is what the steps make.
func TestShifts(t *testing.T) {
	for i, got := range shifts {
		want := uint32(i)
		for range 4 {
			want = step(want)
		}
		if got != want {
			t.Errorf("shifts[%d] = %08x, want %08x", i, got, want)
		}
	}
}

// P14.1: any sum, and no bytes behind it, is that sum.
func TestUpdateByNothing(t *testing.T) {
	for _, sum := range anySums() {
		for _, b := range [][]byte{nil, {}, make([]byte, 0, 5)} {
			if got := Update(sum, b); got != sum {
				t.Errorf("Update(%08x, nothing) = %08x", sum, got)
			}
		}
	}
}

// P14.1: Update of any sum, also 0 and all ones, by one byte and by many, is the
// sum of bytes that have that sum and of those behind them.
func TestUpdateOfAnySum(t *testing.T) {
	r := rand.New(rand.NewSource(3))
	for _, sum := range anySums() {
		head := having(sum)
		for c := range 256 {
			checkUpdate(t, sum, head, []byte{byte(c)})
		}
		for n := range 70 {
			checkUpdate(t, sum, head, random(r, n))
		}
		checkUpdate(t, sum, head, random(r, 5000))
		checkUpdate(t, sum, head, make([]byte, 333))
		checkUpdate(t, sum, head, bytes.Repeat([]byte{0xff}, 333))
		// All that was summed up so far may be given back, to reach 0 and all ones.
		for _, next := range []uint32{0, math.MaxUint32} {
			both := ending(head, next)
			if got := Update(sum, both[len(head):]); got != next {
				t.Errorf("Update(%08x, %x) = %08x, want %08x", sum, both[len(head):], got, next)
			}
		}
	}
}

// checkUpdate asks of bytes behind head, whose sum that is.
func checkUpdate(t *testing.T, sum uint32, head, b []byte) {
	t.Helper()
	want := told(append(bytes.Clone(head), b...))
	if got := Update(sum, b); got != want || got != crc32.Update(sum, crc32.IEEETable, b) {
		t.Errorf("Update(%08x, %.40x) = %08x, want %08x", sum, b, got, want)
	}
}

// P14.1: wherever bytes are cut, Update and Join of the parts are the sum of both.
func TestCutAnywhere(t *testing.T) {
	r := rand.New(rand.NewSource(4))
	for _, b := range [][]byte{nil, []byte("123456789"), random(r, 600), make([]byte, 300), bytes.Repeat([]byte{0xff}, 300)} {
		want := told(b)
		for cut := range len(b) + 1 {
			first, second := b[:cut], b[cut:]
			if got := Update(Sum(first), second); got != want {
				t.Errorf("Update(%.40x at %d) = %08x, want %08x", b, cut, got, want)
			}
			if got := Join(Sum(first), Sum(second), len(second)); got != want {
				t.Errorf("Join(%.40x at %d) = %08x, want %08x", b, cut, got, want)
			}
		}
	}
}

// P14.1: bytes may come one by one, or in parts of any lengths.
func TestManyParts(t *testing.T) {
	r := rand.New(rand.NewSource(5))
	for range 300 {
		b := random(r, r.Intn(3000))
		updated, joined := uint32(0), uint32(0)
		most := 1 + r.Intn(200)
		for rest := b; len(rest) > 0; {
			n := min(len(rest), r.Intn(most+1))
			updated = Update(updated, rest[:n])
			joined = Join(joined, Sum(rest[:n]), n)
			rest = rest[n:]
		}
		if want := told(b); updated != want || joined != want {
			t.Errorf("%d bytes in parts: Update %08x, Join %08x, want %08x", len(b), updated, joined, want)
		}
	}
}

// P14.1: Join of any two sums, of any lengths.
func TestJoinAnySums(t *testing.T) {
	r := rand.New(rand.NewSource(6))
	for _, first := range anySums() {
		for _, second := range anySums() {
			for _, n := range []int{4, 5, 7, 8, 31, 32, 33, 4 + r.Intn(400)} {
				b := ending(random(r, n-4), second)
				want := told(append(having(first), b...))
				if got := Join(first, second, n); got != want {
					t.Errorf("Join(%08x, %08x, %d) = %08x, want %08x", first, second, n, got, want)
				}
			}
		}
		for c := range 256 {
			b := []byte{byte(c)}
			if got, want := Join(first, told(b), 1), told(append(having(first), b...)); got != want {
				t.Errorf("Join(%08x, %08x, 1) = %08x, want %08x", first, told(b), got, want)
			}
		}
		if got := Join(first, 0, 0); got != first {
			t.Errorf("Join(%08x, 0, 0) = %08x", first, got)
		}
	}
}

// P14.1: a sum that n bytes can't have, as n is below 4, is taken as if they had.
func TestJoinSumsOfNoBytes(t *testing.T) {
	for _, c := range []struct {
		first, second uint32
		n             int
		want          uint32
	}{
		{5, 3, 0, 6},
		{0, 1, 0, 1},
		{math.MaxUint32, math.MaxUint32, 0, 0},
		{0, 7, 1, 7},
		{0, 7, 3, 7},
		{1, 0, 1, 0x77073096},
		{1, 0x77073096, 1, 0},
	} {
		if got := Join(c.first, c.second, c.n); got != c.want {
			t.Errorf("Join(%x, %x, %d) = %08x, want %08x", c.first, c.second, c.n, got, c.want)
		}
	}
}

// P14.1: Join at each power of two up to the most, and beside it.
func TestJoinLengths(t *testing.T) {
	r := rand.New(rand.NewSource(7))
	all := random(r, 1<<24)
	head := []byte("ahead")
	for i := range 25 {
		for _, n := range []int{1<<i - 1, 1 << i, 1<<i + 1} {
			if n > len(all) {
				continue
			}
			b := all[:n]
			want := crc32.Update(told(head), crc32.IEEETable, b)
			if got := Join(Sum(head), crc32.ChecksumIEEE(b), n); got != want {
				t.Errorf("Join behind %d bytes = %08x, want %08x", n, got, want)
			}
		}
	}
}

// P14.1: at just 2^24 bytes Join answers, one more is too many, and none is below 0.
func TestJoinRange(t *testing.T) {
	b := make([]byte, 1<<24)
	sum := told(b)
	if got := Sum(b); got != sum {
		t.Errorf("Sum(2^24 zeros) = %08x, want %08x", got, sum)
	}
	if got, want := Join(0xe8b7be43, sum, 1<<24), crc32.Update(0xe8b7be43, crc32.IEEETable, b); got != want || got == 0 {
		t.Errorf("Join at 2^24 = %08x, want %08x", got, want)
	}
	for _, n := range []int{-1, -2, -5, -1 << 24, -1<<24 - 1, 1<<24 + 1, 1<<24 + 2, 1 << 25, math.MaxInt32, math.MinInt32, math.MaxInt, math.MinInt, math.MinInt + 5, math.MaxInt - math.MaxUint32 + 5} {
		for _, sum := range anySums() {
			if got := Join(sum, 3, n); got != 0 {
				t.Errorf("Join(%08x, 3, %d) = %08x, want 0", sum, n, got)
			}
			if got := Join(3, sum, n); got != 0 {
				t.Errorf("Join(3, %08x, %d) = %08x, want 0", sum, n, got)
			}
		}
	}
}

// P14.1: it is one whether two sums are joined ahead of a third, or behind a first.
func TestJoinThree(t *testing.T) {
	r := rand.New(rand.NewSource(8))
	for range 3000 {
		a, b, c := r.Uint32(), r.Uint32(), r.Uint32()
		n, m := r.Intn(1<<23), r.Intn(1<<23)
		left := Join(Join(a, b, n), c, m)
		right := Join(a, Join(b, c, m), n+m)
		if left != right {
			t.Errorf("Join of %08x, %08x (%d), %08x (%d): %08x and %08x", a, b, n, c, m, left, right)
		}
	}
}

// checkTurned asks whether b's sum is another one when that bit is turned.
func checkTurned(t *testing.T, b []byte, bit int) {
	t.Helper()
	turned := bytes.Clone(b)
	turned[bit/8] ^= 1 << (bit % 8)
	if Sum(turned) == Sum(b) {
		t.Errorf("%d bytes, %.40x: bit %d turned makes no other sum", len(b), b, bit)
	}
}

// P14.2: one bit turned, anywhere, makes another sum.
func TestBitTurned(t *testing.T) {
	r := rand.New(rand.NewSource(9))
	for n := 1; n <= 70; n++ {
		for _, b := range [][]byte{make([]byte, n), bytes.Repeat([]byte{0xff}, n), random(r, n)} {
			for bit := range 8 * n {
				checkTurned(t, b, bit)
			}
		}
	}
	b := random(r, 700)
	for bit := range 8 * len(b) {
		checkTurned(t, b, bit)
	}
}

// P14.2: so it is in long bytes, at the front, at the end, and in between.
func TestBitTurnedInLong(t *testing.T) {
	r := rand.New(rand.NewSource(10))
	b := random(r, 1<<18+7)
	for i := range 16 {
		checkTurned(t, b, i)
		checkTurned(t, b, 8*len(b)-1-i)
		checkTurned(t, b, 4*len(b)+i)
		checkTurned(t, b, r.Intn(8*len(b)))
	}
}

// P14.2: one bit turned, in what was summed up ahead or in either sum, makes
// another sum of Update and Join too.
func TestBitTurnedInSums(t *testing.T) {
	r := rand.New(rand.NewSource(11))
	for _, sum := range anySums() {
		b := random(r, r.Intn(100))
		n := r.Intn(1<<24 + 1)
		for bit := range 32 {
			turned := sum ^ 1<<bit
			if Update(sum, b) == Update(turned, b) {
				t.Errorf("Update(%08x or %08x, %x) is one", sum, turned, b)
			}
			if Join(sum, 9, n) == Join(turned, 9, n) || Join(9, sum, n) == Join(9, turned, n) {
				t.Errorf("Join with %08x or %08x, at %d, is one", sum, turned, n)
			}
		}
		for bit := range 8 * len(b) {
			turned := bytes.Clone(b)
			turned[bit/8] ^= 1 << (bit % 8)
			if Update(sum, b) == Update(sum, turned) {
				t.Errorf("Update(%08x, %x or %x) is one", sum, b, turned)
			}
		}
	}
}

// R2: what is answered hangs on the arguments alone.
func TestSameAgain(t *testing.T) {
	r := rand.New(rand.NewSource(12))
	b, other := random(r, 500), random(r, 77)
	sum, updated, joined := Sum(b), Update(7, b), Join(7, 9, 500)
	for range 5 {
		Sum(other)
		Update(9, other)
		Join(9, 7, 77)
		if Sum(b) != sum || Update(7, b) != updated || Join(7, 9, 500) != joined {
			t.Fatal("another answer at the second time")
		}
	}
	// What stands around the bytes, and how much room there is, is nothing of theirs.
	wide := append(append(bytes.Clone(other), b...), other...)
	if Sum(wide[len(other):][:len(b)]) != sum || Sum(bytes.Clone(b)) != sum {
		t.Error("another answer for the same bytes elsewhere")
	}
}

// R3: bytes that are handed in are left as they are, their spare room too.
func TestMemory(t *testing.T) {
	r := rand.New(rand.NewSource(13))
	for n := range 100 {
		room := random(r, n+20)
		before := bytes.Clone(room)
		b := room[:n]
		Sum(b)
		Update(r.Uint32(), b)
		if !bytes.Equal(room, before) {
			t.Fatalf("%d bytes were changed", n)
		}
	}
}

// Whatever the bytes, and wherever they are cut, the words' sum is what comes.
func FuzzSum(f *testing.F) {
	f.Add([]byte("123456789"), uint32(0), 4)
	f.Add([]byte{}, uint32(math.MaxUint32), 0)
	f.Add([]byte("\x00\xff\x80"), uint32(5), -1)
	f.Fuzz(func(t *testing.T, b []byte, sum uint32, n int) {
		checkSum(t, b)
		checkUpdate(t, sum, having(sum), b)
		cut := max(0, min(n, len(b)))
		if got := Join(Sum(b[:cut]), Sum(b[cut:]), len(b)-cut); got != told(b) {
			t.Errorf("Join(%x at %d) = %08x, want %08x", b, cut, got, told(b))
		}
		if got := Join(sum, 3, n); (n < 0 || n > 1<<24) && got != 0 {
			t.Errorf("Join(%08x, 3, %d) = %08x, want 0", sum, n, got)
		}
		if len(b) > 0 {
			checkTurned(t, b, (8*len(b)-1)*cut/len(b))
		}
	})
}

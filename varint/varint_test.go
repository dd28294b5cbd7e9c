package varint

import (
	"bytes"
	"testing"

	"courier/api"
)

// shortest pairs numbers with their shortest varints, at each edge of a length.
var shortest = []struct {
	n    uint64
	want string
}{
	{0, "\x00"},
	{1, "\x01"},
	{127, "\x7f"},
	{128, "\x80\x01"},
	{300, "\xac\x02"},
	{1<<14 - 1, "\xff\x7f"},
	{1 << 14, "\x80\x80\x01"},
	{1<<21 - 1, "\xff\xff\x7f"},
	{1 << 21, "\x80\x80\x80\x01"},
	{1<<28 - 1, "\xff\xff\xff\x7f"},
	{1 << 28, "\x80\x80\x80\x80\x01"},
	{1<<35 - 1, "\xff\xff\xff\xff\x7f"},
	{1 << 35, "\x80\x80\x80\x80\x80\x01"},
	{1<<42 - 1, "\xff\xff\xff\xff\xff\x7f"},
	{1 << 42, "\x80\x80\x80\x80\x80\x80\x01"},
	{1<<49 - 1, "\xff\xff\xff\xff\xff\xff\x7f"},
	{1 << 49, "\x80\x80\x80\x80\x80\x80\x80\x01"},
	{1<<56 - 1, "\xff\xff\xff\xff\xff\xff\xff\x7f"},
	{1 << 56, "\x80\x80\x80\x80\x80\x80\x80\x80\x01"},
	{1<<63 - 1, "\xff\xff\xff\xff\xff\xff\xff\xff\x7f"},
	{1 << 63, "\x80\x80\x80\x80\x80\x80\x80\x80\x80\x01"},
	{1<<64 - 1, "\xff\xff\xff\xff\xff\xff\xff\xff\xff\x01"},
	{0x0123456789abcdef, "\xef\x9b\xaf\xcd\xf8\xac\xd1\x91\x01"},
}

// spread answers numbers all over the range: each power of two, what is beside
// it, what its complement is, and a walk by a big odd step.
func spread() []uint64 {
	var all []uint64
	for i := range 64 {
		p := uint64(1) << i
		all = append(all, p-1, p, p+1, ^p, -p)
	}
	n := uint64(1)
	for i := range 2000 {
		n = n*6364136223846793005 + 1442695040888963407
		all = append(all, n>>(i%64))
	}
	return all
}

// P1.1: Append answers b and the shortest varint, Size its length.
func TestAppendAndSize(t *testing.T) {
	for _, c := range shortest {
		for _, head := range []string{"", "x", "\x80\xff\x80"} {
			if got := Append([]byte(head), c.n); string(got) != head+c.want {
				t.Errorf("Append(%x, %d) = %x, want %x", head, c.n, got, head+c.want)
			}
		}
		if got := Append(nil, c.n); string(got) != c.want {
			t.Errorf("Append(nil, %d) = %x, want %x", c.n, got, c.want)
		}
		if got := Size(c.n); got != len(c.want) {
			t.Errorf("Size(%d) = %d, want %d", c.n, got, len(c.want))
		}
	}
}

// P1.1: what Append answers has as few bytes as may be, and marks all but the last.
func TestAppendIsShortest(t *testing.T) {
	for _, n := range spread() {
		b := Append(nil, n)
		if len(b) != Size(n) {
			t.Errorf("Append(nil, %d) has %d bytes, Size says %d", n, len(b), Size(n))
		}
		if len(b) > 1 && n>>(7*(len(b)-1)) == 0 {
			t.Errorf("Append(nil, %d) = %x isn't the shortest", n, b)
		}
		for i, c := range b {
			if (c&0x80 != 0) != (i < len(b)-1) {
				t.Errorf("Append(nil, %d) = %x: wrong highest bit at %d", n, b, i)
			}
		}
	}
}

// P1.1: Take answers the number of the first varint alone, shortest or not.
func TestTake(t *testing.T) {
	for _, c := range shortest {
		for _, tail := range []string{"", "\x00", "\x80", "\xff\xff\xff\xff\xff\xff\xff\xff\xff\xff\xff"} {
			checkTake(t, c.want+tail, c.n, len(c.want), api.OK)
		}
	}
	checkTake(t, "\x80\x00", 0, 2, api.OK)
	checkTake(t, "\x81\x00x", 1, 2, api.OK)
	checkTake(t, "\xac\x82\x00", 300, 3, api.OK)
	checkTake(t, "\x80\x80\x80\x80\x80\x80\x80\x80\x80\x00", 0, 10, api.OK)
	checkTake(t, "\x85\x80\x80\x80\x80\x80\x80\x80\x80\x00\x80", 5, 10, api.OK)
	checkTake(t, "\xff\xff\xff\xff\xff\xff\xff\xff\xff\x00", 1<<63-1, 10, api.OK)
	checkTake(t, "\x80\x80\x80\x80\x80\x80\x80\x80\x80\x01\x02", 1<<63, 10, api.OK)
}

// P1.1: bytes that end ahead of a varint's end are ErrNone.
func TestTakeEndsEarly(t *testing.T) {
	checkTake(t, "", 0, 0, api.ErrNone)
	if n, k, e := Take(nil); n != 0 || k != 0 || e != api.ErrNone {
		t.Errorf("Take(nil) = %d, %d, %d", n, k, e)
	}
	for _, c := range shortest {
		for cut := range len(c.want) {
			checkTake(t, c.want[:cut], 0, 0, api.ErrNone)
		}
	}
	checkTake(t, "\x80\x80\x80\x80\x80\x80\x80\x80\x80", 0, 0, api.ErrNone)
}

// P1.1: a tenth byte other than 0 or 1 is ErrForm, whatever follows it.
func TestTakeTenthByte(t *testing.T) {
	for tenth := 2; tenth < 256; tenth++ {
		for _, nine := range []string{"\x80\x80\x80\x80\x80\x80\x80\x80\x80", "\xff\xff\xff\xff\xff\xff\xff\xff\xff"} {
			checkTake(t, nine+string([]byte{byte(tenth)}), 0, 0, api.ErrForm)
			checkTake(t, nine+string([]byte{byte(tenth), 0}), 0, 0, api.ErrForm)
		}
	}
}

func checkTake(t *testing.T, b string, n uint64, size int, err api.Errno) {
	t.Helper()
	gotN, gotSize, gotErr := Take([]byte(b))
	if gotN != n || gotSize != size || gotErr != err {
		t.Errorf("Take(%x) = %d, %d, %d, want %d, %d, %d", b, gotN, gotSize, gotErr, n, size, err)
	}
}

// P1.2: zigzag, and back.
func TestZigZag(t *testing.T) {
	for _, c := range []struct {
		n int64
		z uint64
	}{
		{0, 0}, {-1, 1}, {1, 2}, {-2, 3}, {2, 4}, {-64, 127}, {64, 128},
		{1<<31 - 1, 1<<32 - 2}, {-1 << 31, 1<<32 - 1},
		{1<<62 - 1, 1<<63 - 2}, {-1 << 62, 1<<63 - 1}, {1 << 62, 1 << 63},
		{1<<63 - 1, 1<<64 - 2}, {-1 << 63, 1<<64 - 1},
	} {
		if got := Zig(c.n); got != c.z {
			t.Errorf("Zig(%d) = %d, want %d", c.n, got, c.z)
		}
		if got := Zag(c.z); got != c.n {
			t.Errorf("Zag(%d) = %d, want %d", c.z, got, c.n)
		}
	}
}

// P1.2: four and eight bytes, the lowest first, behind what was there.
func TestAppendFixed(t *testing.T) {
	for _, head := range []string{"", "x", "\x80\xff\x80"} {
		for n, want := range map[uint32]string{
			0: "\x00\x00\x00\x00", 1: "\x01\x00\x00\x00", 0x04030201: "\x01\x02\x03\x04",
			1 << 31: "\x00\x00\x00\x80", 1<<32 - 1: "\xff\xff\xff\xff",
		} {
			if got := Append32([]byte(head), n); string(got) != head+want {
				t.Errorf("Append32(%x, %d) = %x", head, n, got)
			}
		}
		for n, want := range map[uint64]string{
			0: "\x00\x00\x00\x00\x00\x00\x00\x00", 1: "\x01\x00\x00\x00\x00\x00\x00\x00",
			0x0807060504030201: "\x01\x02\x03\x04\x05\x06\x07\x08",
			1 << 63:            "\x00\x00\x00\x00\x00\x00\x00\x80",
			1<<64 - 1:          "\xff\xff\xff\xff\xff\xff\xff\xff",
		} {
			if got := Append64([]byte(head), n); string(got) != head+want {
				t.Errorf("Append64(%x, %d) = %x", head, n, got)
			}
		}
	}
	if got := Append64(Append32(nil, 1), 2); string(got) != "\x01\x00\x00\x00\x02\x00\x00\x00\x00\x00\x00\x00" {
		t.Errorf("Append32 and Append64 behind it: %x", got)
	}
}

// P1.2: the number of the first four, eight bytes; fewer are ErrNone.
func TestTakeFixed(t *testing.T) {
	all := []byte("\x01\x82\x03\xf4\x05\x06\x07\x88\xff\xff")
	for size := range len(all) + 1 {
		want32, err32 := uint32(0xf4038201), api.OK
		if size < 4 {
			want32, err32 = 0, api.ErrNone
		}
		if n, e := Take32(all[:size]); n != want32 || e != err32 {
			t.Errorf("Take32 of %d bytes = %x, %d, want %x, %d", size, n, e, want32, err32)
		}
		want64, err64 := uint64(0x88070605f4038201), api.OK
		if size < 8 {
			want64, err64 = 0, api.ErrNone
		}
		if n, e := Take64(all[:size]); n != want64 || e != err64 {
			t.Errorf("Take64 of %d bytes = %x, %d, want %x, %d", size, n, e, want64, err64)
		}
	}
	if n, e := Take32(nil); n != 0 || e != api.ErrNone {
		t.Errorf("Take32(nil) = %x, %d", n, e)
	}
	if n, e := Take64(nil); n != 0 || e != api.ErrNone {
		t.Errorf("Take64(nil) = %x, %d", n, e)
	}
}

// P1.3: each call that takes undoes the one that appends, and Zag undoes Zig.
func TestThereAndBack(t *testing.T) {
	for _, n := range spread() {
		b := Append([]byte("ab"), n)
		if got, size, e := Take(append(b, 0xff)[2:]); got != n || size != len(b)-2 || e != api.OK {
			t.Errorf("Take of Append of %d = %d, %d, %d", n, got, size, e)
		}
		if got := Zag(Zig(int64(n))); got != int64(n) {
			t.Errorf("Zag(Zig(%d)) = %d", int64(n), got)
		}
		if got := Zig(Zag(n)); got != n {
			t.Errorf("Zig(Zag(%d)) = %d", n, got)
		}
		if got, e := Take32(Append32([]byte("ab"), uint32(n))[2:]); got != uint32(n) || e != api.OK {
			t.Errorf("Take32 of Append32 of %d = %d, %d", uint32(n), got, e)
		}
		if got, e := Take64(Append64([]byte("ab"), n)[2:]); got != n || e != api.OK {
			t.Errorf("Take64 of Append64 of %d = %d, %d", n, got, e)
		}
	}
}

// R3: the appending calls leave b and its spare room as they are, and answer
// memory that has nothing of b's in it, whatever room b has.
func TestAppendsMakeNewMemory(t *testing.T) {
	calls := map[string]func([]byte) []byte{
		"Append":        func(b []byte) []byte { return Append(b, 1<<64-1) },
		"Append of one": func(b []byte) []byte { return Append(b, 5) },
		"Append32":      func(b []byte) []byte { return Append32(b, 1<<32-1) },
		"Append64":      func(b []byte) []byte { return Append64(b, 1<<64-1) },
	}
	for name, call := range calls {
		for _, size := range []int{0, 1, 3} {
			for spare := range 40 {
				checkNewMemory(t, name, call, size, spare)
			}
		}
	}
}

func checkNewMemory(t *testing.T, name string, call func([]byte) []byte, size, spare int) {
	t.Helper()
	whole := bytes.Repeat([]byte{0xa5}, size+spare)
	before := bytes.Clone(whole)
	first := call(whole[:size])
	kept := bytes.Clone(first)
	if !bytes.Equal(whole, before) {
		t.Errorf("%s of %d bytes with room for %d wrote into what it was given", name, size, spare)
	}
	second := call(whole[:size])
	fill(second, 0x11)
	if !bytes.Equal(whole, before) {
		t.Errorf("%s of %d bytes with room for %d answers its argument's memory", name, size, spare)
	}
	fill(whole, 0x22)
	if !bytes.Equal(first, kept) {
		t.Errorf("%s of %d bytes with room for %d answers memory that is shared", name, size, spare)
	}
}

// fill writes over b and its spare room.
func fill(b []byte, with byte) {
	room := b[:cap(b)]
	for i := range room {
		room[i] = with
	}
}

// R3: the taking calls leave their bytes as they are.
func TestTakesLeaveBytes(t *testing.T) {
	before := "\xff\xfe\xfd\xfc\xfb\xfa\xf9\xf8\xf7\x01\x80\x33"
	b := []byte(before)
	for size := range len(b) + 1 {
		Take(b[:size])
		Take32(b[:size])
		Take64(b[:size])
		if string(b) != before {
			t.Fatalf("bytes changed to %x by a call on %d of them", b, size)
		}
	}
}

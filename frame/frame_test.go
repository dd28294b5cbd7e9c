package frame

import (
	"bytes"
	"encoding/binary"
	"hash/crc32"
	"math"
	"math/rand"
	"reflect"
	"testing"

	"courier/api"
)

// call, reply and cancel are formed frames, of which others are made.
var (
	call   = api.Frame{Kind: api.Call, Client: 7, Token: 20, Attempt: 2, Floor: 9, Method: 3, Deadline: 1000, Payload: []byte("an argument")}
	reply  = api.Frame{Kind: api.Reply, Client: 7, Token: 20, Attempt: 0, Floor: 1, Method: 3, Deadline: 0, Status: api.Internal, Payload: []byte("a result")}
	cancel = api.Frame{Kind: api.Cancel, Client: 7, Token: 20, Attempt: 5, Floor: 20, Method: 3, Deadline: 1000}
)

// least and most are formed frames with all fields at an edge.
var (
	least = api.Frame{Kind: api.Call, Client: 1, Token: 1, Floor: 1}
	most  = api.Frame{Kind: api.Reply, Client: math.MaxInt32, Token: math.MaxUint64, Attempt: api.MaxTries - 1, Floor: math.MaxUint64, Method: math.MaxInt32, Deadline: api.MaxTime, Status: 255, Payload: bytes.Repeat([]byte{0xff}, api.MaxSize)}
)

// summed answers b and its sum, the highest byte first.
func summed(b []byte) []byte {
	return binary.BigEndian.AppendUint32(bytes.Clone(b), crc32.ChecksumIEEE(b))
}

// laid answers bytes with just these numbers and this payload, and a right sum, be
// they a frame's or not.
func laid(numbers []uint64, payload []byte) []byte {
	b := []byte{0xc7}
	for _, n := range numbers {
		b = binary.AppendUvarint(b, n)
	}
	return summed(append(b, payload...))
}

// told answers the numbers that stand in f's bytes.
func told(f api.Frame) []uint64 {
	return []uint64{uint64(f.Kind), uint64(f.Client), f.Token, uint64(f.Attempt), f.Floor, uint64(f.Method), uint64(f.Deadline), uint64(f.Status), uint64(len(f.Payload))}
}

// written answers f's bytes, as the chapter's words tell them.
func written(f api.Frame) []byte { return laid(told(f), f.Payload) }

// fits asks the chapter's words one by one, whether f is formed.
func fits(f api.Frame) bool {
	for _, no := range []bool{
		f.Kind != 1 && f.Kind != 2 && f.Kind != 3,
		f.Client < 1, f.Client > 2147483647,
		f.Token == 0,
		f.Attempt < 0, f.Attempt > 5,
		f.Floor == 0, f.Floor > f.Token,
		f.Method < 0, f.Method > 2147483647,
		f.Deadline < 0, f.Deadline > 1099511627776,
		f.Status < 0, f.Status > 255,
		len(f.Payload) > 4096,
		f.Kind == 3 && len(f.Payload) > 0,
		f.Kind != 2 && f.Status != 0,
	} {
		if no {
			return false
		}
	}
	return true
}

// with answers f changed in a field or more.
func with(f api.Frame, change func(*api.Frame)) api.Frame {
	change(&f)
	return f
}

// formedFrames are ordinary frames of each Kind, and such as stand at an edge.
func formedFrames() []api.Frame {
	return []api.Frame{
		call, reply, cancel, least, most,
		{Kind: api.Cancel, Client: 1, Token: 1, Floor: 1, Method: 1},
		{Kind: api.Reply, Client: 300, Token: math.MaxUint64, Attempt: 5, Floor: 7, Method: math.MaxInt32, Deadline: 1 << 40, Status: 255, Payload: []byte("abc")},
		{Kind: api.Reply, Client: 127, Token: 128, Floor: 127, Method: 128, Deadline: 16383, Status: 128, Payload: bytes.Repeat([]byte{0}, 127)},
		{Kind: api.Reply, Client: 128, Token: 16384, Floor: 16383, Method: 16384, Deadline: 16384, Status: 127, Payload: bytes.Repeat([]byte{0x80}, 128)},
		{Kind: api.Call, Client: 1 << 21, Token: 1 << 63, Floor: 1, Method: 1<<21 - 1, Deadline: 1<<35 - 1, Payload: bytes.Repeat([]byte{0xc7}, api.MaxSize)},
		{Kind: api.Cancel, Client: math.MaxInt32, Token: math.MaxUint64, Attempt: 5, Floor: math.MaxUint64, Method: math.MaxInt32, Deadline: api.MaxTime},
		{Kind: api.Call, Client: 2, Token: 2, Floor: 2, Payload: written(call)},
	}
}

// checkFrame asks all that is asked of any frame, be it formed or not.
func checkFrame(t *testing.T, f api.Frame) {
	t.Helper()
	want := fits(f)
	if got := Formed(f); got != want {
		t.Errorf("Formed(%+v) = %v", f, got)
	}
	b, err := Build(f)
	if !want {
		if b != nil || err != api.ErrArg {
			t.Errorf("Build(%+v) = %x, %d, want nothing and ErrArg", f, b, err)
		}
		checkRefused(t, written(f))
		return
	}
	if err != api.OK || !bytes.Equal(b, written(f)) {
		t.Errorf("Build(%+v) = %x, %d, want %x", f, b, err, written(f))
	}
	got, err := Parse(b)
	if err != api.OK || !alike(got, f) || !Same(got, f) {
		t.Errorf("Parse(Build(%+v)) = %+v, %d", f, got, err)
	}
}

// checkRefused asks that b is no frame's bytes.
func checkRefused(t *testing.T, b []byte) {
	t.Helper()
	if f, err := Parse(b); err != api.ErrForm || !reflect.DeepEqual(f, api.Frame{}) {
		t.Errorf("Parse(%.60x, %d bytes) = %+v, %d, want nothing and ErrForm", b, len(b), f, err)
	}
}

// readStrictly answers the frame whose bytes b is, asking for each part by itself;
// and whether there is one.
func readStrictly(b []byte) (api.Frame, bool) {
	if len(b) < 5 || b[0] != 0xc7 {
		return api.Frame{}, false
	}
	body, sum := b[:len(b)-4], b[len(b)-4:]
	if binary.BigEndian.Uint32(sum) != crc32.ChecksumIEEE(body) {
		return api.Frame{}, false
	}
	rest := body[1:]
	var n [9]uint64
	for i, greatest := range []uint64{3, math.MaxInt32, math.MaxUint64, 5, math.MaxUint64, math.MaxInt32, 1 << 40, 255, 4096} {
		number, size := binary.Uvarint(rest)
		if size <= 0 || number > greatest || size > 1 && rest[size-1] == 0 {
			return api.Frame{}, false
		}
		n[i], rest = number, rest[size:]
	}
	f := api.Frame{Kind: int(n[0]), Client: int(n[1]), Token: n[2], Attempt: int(n[3]), Floor: n[4], Method: int(n[5]), Deadline: int64(n[6]), Status: int(n[7]), Payload: rest}
	return f, n[8] == uint64(len(rest)) && fits(f)
}

// checkBytes asks that any bytes are read as they are read strictly.
func checkBytes(t *testing.T, b []byte) {
	t.Helper()
	want, ok := readStrictly(b)
	if !ok {
		checkRefused(t, b)
		return
	}
	if got, err := Parse(b); err != api.OK || !alike(got, want) {
		t.Errorf("Parse(%.60x, %d bytes) = %+v, %d, want %+v", b, len(b), got, err, want)
	}
	if got, err := Build(want); err != api.OK || !bytes.Equal(got, b) {
		t.Errorf("Build(%+v) = %x, %d, want %x", want, got, err, b)
	}
}

// alike holds two frames against each other by the library.
func alike(a, b api.Frame) bool {
	if len(a.Payload) == 0 && len(b.Payload) == 0 {
		a.Payload, b.Payload = nil, nil
	}
	return reflect.DeepEqual(a, b)
}

// P15.1: ordinary frames of each Kind, and such as stand at an edge.
func TestFormedFrames(t *testing.T) {
	for _, f := range formedFrames() {
		if !fits(f) {
			t.Errorf("the tests' own: %+v isn't formed", f)
		}
		checkFrame(t, f)
	}
}

// P15.1: frames' bytes as they stand, the chapter's example among them.
func TestKnownBytes(t *testing.T) {
	for _, c := range []struct {
		f    api.Frame
		want string
	}{
		{api.Frame{Kind: api.Cancel, Client: 1, Token: 1, Floor: 1, Method: 1}, "\xc7\x03\x01\x01\x00\x01\x01\x00\x00\x00\xaf\x65\x04\x94"},
		{least, "\xc7\x01\x01\x01\x00\x01\x00\x00\x00\x00\x39\x2f\x4b\x77"},
		{api.Frame{Kind: api.Reply, Client: 300, Token: 1<<64 - 1, Attempt: 5, Floor: 7, Method: 2147483647, Deadline: 1 << 40, Status: 255, Payload: []byte("abc")},
			"\xc7\x02\xac\x02\xff\xff\xff\xff\xff\xff\xff\xff\xff\x01\x05\x07\xff\xff\xff\xff\x07\x80\x80\x80\x80\x80\x20\xff\x01\x03abc\x09\x4e\xc6\xb1"},
	} {
		b, err := Build(c.f)
		if string(b) != c.want || err != api.OK {
			t.Errorf("Build(%+v) = %x, %d, want %x", c.f, b, err, c.want)
		}
		f, err := Parse([]byte(c.want))
		if !Same(f, c.f) || err != api.OK {
			t.Errorf("Parse(%x) = %+v, %d, want %+v", c.want, f, err, c.f)
		}
	}
}

// payloads are of lengths at the edges of a varint's and of what is allowed.
func payloads() [][]byte {
	list := [][]byte{nil, {}, make([]byte, 0, 9), {0}, {0xc7}}
	for _, n := range []int{2, 127, 128, 255, 256, api.MaxSize - 1, api.MaxSize, api.MaxSize + 1, 2 * api.MaxSize, 1 << 16} {
		list = append(list, bytes.Repeat([]byte{0xa5}, n))
	}
	return list
}

// ints are numbers at the edges of fields, and of their types.
func ints() []int {
	list := []int{math.MinInt, math.MinInt + 1, math.MinInt32 - 1, math.MinInt32, -256, -1, math.MaxInt - 1, math.MaxInt}
	for i := range 11 {
		list = append(list, i)
	}
	for _, n := range []int{127, 128, 255, 256, 257, 512, 1 << 14, 1<<31 - 2, 1<<31 - 1, 1 << 31, 1<<31 + 1, 1<<32 - 1, 1 << 32, 1<<32 + 1, 1<<40 - 1, 1 << 40, 1<<40 + 1, 1 << 41} {
		list = append(list, n)
	}
	return list
}

// tokens are numbers at the edges of tokens and floors.
func tokens() []uint64 {
	return []uint64{0, 1, 2, 8, 9, 10, 19, 20, 21, 127, 128, 1<<31 - 1, 1 << 31, 1 << 32, 1<<63 - 1, 1 << 63, 1<<63 + 1, math.MaxUint64 - 1, math.MaxUint64}
}

// P15.1: each field by itself, at both its edges, just beyond them, and far beyond.
func TestEachField(t *testing.T) {
	for _, f := range []api.Frame{call, reply, cancel, least, most} {
		for _, n := range ints() {
			checkFrame(t, with(f, func(f *api.Frame) { f.Kind = n }))
			checkFrame(t, with(f, func(f *api.Frame) { f.Client = n }))
			checkFrame(t, with(f, func(f *api.Frame) { f.Attempt = n }))
			checkFrame(t, with(f, func(f *api.Frame) { f.Method = n }))
			checkFrame(t, with(f, func(f *api.Frame) { f.Deadline = int64(n) }))
			checkFrame(t, with(f, func(f *api.Frame) { f.Status = n }))
		}
		for _, n := range tokens() {
			checkFrame(t, with(f, func(f *api.Frame) { f.Token = n }))
			checkFrame(t, with(f, func(f *api.Frame) { f.Floor = n }))
			checkFrame(t, with(f, func(f *api.Frame) { f.Token, f.Floor = n, n }))
			checkFrame(t, with(f, func(f *api.Frame) { f.Token, f.Floor = n, n+1 }))
			checkFrame(t, with(f, func(f *api.Frame) { f.Token, f.Floor = n, n-1 }))
		}
		for _, p := range payloads() {
			checkFrame(t, with(f, func(f *api.Frame) { f.Payload = p }))
		}
	}
}

// P15.1: the edges that are named, told one by one.
func TestNamedEdges(t *testing.T) {
	for i, c := range []struct {
		f    api.Frame
		want bool
	}{
		{with(call, func(f *api.Frame) { f.Kind = 0 }), false},
		{with(call, func(f *api.Frame) { f.Kind = 4 }), false},
		{with(call, func(f *api.Frame) { f.Kind = -1 }), false},
		{with(call, func(f *api.Frame) { f.Client = 0 }), false},
		{with(call, func(f *api.Frame) { f.Client = 1 }), true},
		{with(call, func(f *api.Frame) { f.Client = 2147483647 }), true},
		{with(call, func(f *api.Frame) { f.Client = 2147483648 }), false},
		{with(call, func(f *api.Frame) { f.Token, f.Floor = 0, 0 }), false},
		{with(call, func(f *api.Frame) { f.Token, f.Floor = 0, 1 }), false},
		{with(call, func(f *api.Frame) { f.Token, f.Floor = 1, 1 }), true},
		{with(call, func(f *api.Frame) { f.Attempt = -1 }), false},
		{with(call, func(f *api.Frame) { f.Attempt = 0 }), true},
		{with(call, func(f *api.Frame) { f.Attempt = 5 }), true},
		{with(call, func(f *api.Frame) { f.Attempt = 6 }), false},
		{with(call, func(f *api.Frame) { f.Floor = 0 }), false},
		{with(call, func(f *api.Frame) { f.Floor = 1 }), true},
		{with(call, func(f *api.Frame) { f.Floor = 20 }), true},
		{with(call, func(f *api.Frame) { f.Floor = 21 }), false},
		{with(call, func(f *api.Frame) { f.Method = -1 }), false},
		{with(call, func(f *api.Frame) { f.Method = 0 }), true},
		{with(call, func(f *api.Frame) { f.Method = 2147483647 }), true},
		{with(call, func(f *api.Frame) { f.Method = 2147483648 }), false},
		{with(call, func(f *api.Frame) { f.Deadline = -1 }), false},
		{with(call, func(f *api.Frame) { f.Deadline = 0 }), true},
		{with(call, func(f *api.Frame) { f.Deadline = 1 << 40 }), true},
		{with(call, func(f *api.Frame) { f.Deadline = 1<<40 + 1 }), false},
		{with(call, func(f *api.Frame) { f.Status = 1 }), false},
		{with(cancel, func(f *api.Frame) { f.Status = 1 }), false},
		{with(cancel, func(f *api.Frame) { f.Status = -1 }), false},
		{with(reply, func(f *api.Frame) { f.Status = -1 }), false},
		{with(reply, func(f *api.Frame) { f.Status = 0 }), true},
		{with(reply, func(f *api.Frame) { f.Status = 255 }), true},
		{with(reply, func(f *api.Frame) { f.Status = 256 }), false},
		{with(call, func(f *api.Frame) { f.Payload = nil }), true},
		{with(call, func(f *api.Frame) { f.Payload = []byte{} }), true},
		{with(call, func(f *api.Frame) { f.Payload = make([]byte, 4096) }), true},
		{with(call, func(f *api.Frame) { f.Payload = make([]byte, 4097) }), false},
		{with(reply, func(f *api.Frame) { f.Payload = make([]byte, 4096) }), true},
		{with(reply, func(f *api.Frame) { f.Payload = make([]byte, 4097) }), false},
		{with(cancel, func(f *api.Frame) { f.Payload = nil }), true},
		{with(cancel, func(f *api.Frame) { f.Payload = []byte{} }), true},
		{with(cancel, func(f *api.Frame) { f.Payload = []byte{0} }), false},
		{api.Frame{}, false},
	} {
		if fits(c.f) != c.want {
			t.Errorf("%d: the tests' own", i)
		}
		if Formed(c.f) != c.want {
			t.Errorf("%d: Formed(%+v) = %v", i, c.f, !c.want)
		}
		checkFrame(t, c.f)
	}
}

// anyFrame answers a frame whose fields are each at some edge; more often than
// not within it.
func anyFrame(r *rand.Rand) api.Frame {
	near := func(within, beyond int) int {
		if r.Intn(12) == 0 {
			list := ints()
			return list[r.Intn(len(list))]
		}
		return within + r.Intn(beyond-within)
	}
	token := func() uint64 {
		if r.Intn(4) == 0 {
			return tokens()[r.Intn(len(tokens()))]
		}
		return r.Uint64() >> r.Intn(64)
	}
	f := api.Frame{Kind: near(1, 4), Client: near(1, 1<<31), Token: token(), Attempt: near(0, 6), Method: near(0, 1<<31), Deadline: int64(near(0, 1<<40+1))}
	f.Floor = token()
	if f.Token > 0 && r.Intn(6) > 0 {
		f.Floor = 1 + f.Floor%f.Token
	}
	if f.Kind == api.Reply || r.Intn(20) == 0 {
		f.Status = near(0, 256)
	}
	if f.Kind != api.Cancel || r.Intn(20) == 0 {
		f.Payload = make([]byte, r.Intn(200))
		if r.Intn(20) == 0 {
			f.Payload = make([]byte, 4080+r.Intn(20))
		}
		r.Read(f.Payload)
	}
	return f
}

// P15.1, P15.2: frames made at random, formed or not.
func TestRandomFrames(t *testing.T) {
	r := rand.New(rand.NewSource(1))
	formed := 0
	for range 20000 {
		f := anyFrame(r)
		checkFrame(t, f)
		if fits(f) {
			formed++
		}
	}
	if formed < 5000 || formed > 15000 {
		t.Errorf("%d of 20000 were formed", formed)
	}
}

// P15.2: Parse undoes Build, and Build Parse.
func TestThereAndBack(t *testing.T) {
	for _, f := range formedFrames() {
		b, _ := Build(f)
		again, err := Parse(b)
		if err != api.OK || !alike(again, f) {
			t.Errorf("Parse(Build(%+v)) = %+v, %d", f, again, err)
		}
		built, err := Build(again)
		if err != api.OK || !bytes.Equal(built, b) {
			t.Errorf("Build(Parse(%x)) = %x, %d", b, built, err)
		}
	}
}

// P15.2: a frame's bytes with each one byte turned, to any other, are none.
func TestByteTurned(t *testing.T) {
	for _, f := range formedFrames() {
		b := written(f)
		others := []byte{0x01, 0x80, 0x81, 0xff, 0x55}
		if len(b) < 200 {
			others = nil
			for turn := 1; turn < 256; turn++ {
				others = append(others, byte(turn))
			}
		}
		for i := range b {
			for _, turn := range others {
				turned := bytes.Clone(b)
				turned[i] ^= turn
				checkRefused(t, turned)
			}
		}
	}
}

// P15.2: cut off anywhere, at the end or at the front, they are none.
func TestCutOff(t *testing.T) {
	for _, f := range formedFrames() {
		b := written(f)
		for i := range b {
			checkRefused(t, b[:i])
		}
		for i := range b {
			checkRefused(t, b[i+1:])
		}
		// A sum of what is left makes no frame of it either.
		for i := range len(b) - 4 {
			checkRefused(t, summed(b[:i]))
		}
	}
}

// P15.1: bytes behind, or ahead, or between, are no frame's, be there a sum of
// them all or not.
func TestByteTooMany(t *testing.T) {
	for _, f := range formedFrames() {
		b := written(f)
		body := b[:len(b)-4]
		for c := range 256 {
			checkRefused(t, append(bytes.Clone(b), byte(c)))
			checkRefused(t, summed(append(bytes.Clone(b), byte(c))))
			checkRefused(t, summed(append(bytes.Clone(body), byte(c))))
			checkRefused(t, append([]byte{byte(c)}, b...))
		}
		checkRefused(t, append(bytes.Clone(b), b...))
		checkRefused(t, summed(b))
		checkRefused(t, append(bytes.Clone(b), make([]byte, 2*api.MaxSize)...))
	}
}

// P15.1: no bytes, few bytes, and bytes of one kind.
func TestFewBytes(t *testing.T) {
	checkRefused(t, nil)
	checkRefused(t, []byte{})
	for a := range 256 {
		for n := range 40 {
			checkRefused(t, bytes.Repeat([]byte{byte(a)}, n))
			checkRefused(t, summed(bytes.Repeat([]byte{byte(a)}, n)))
			checkBytes(t, summed(append([]byte{0xc7}, bytes.Repeat([]byte{byte(a)}, n)...)))
		}
	}
}

// P15.1: another first byte, with the sum that it asks for.
func TestFirstByte(t *testing.T) {
	for _, f := range []api.Frame{call, reply, cancel, least, most} {
		body := written(f)
		body = body[:len(body)-4]
		for c := range 256 {
			other := bytes.Clone(body)
			other[0] = byte(c)
			if c == 0xc7 {
				checkFrame(t, f)
				continue
			}
			checkRefused(t, summed(other))
		}
		checkRefused(t, summed(body[1:]))
	}
}

// P15.1: each varint that is longer than it need be, has bytes of no number at all,
// or is cut off, with a right sum.
func TestVarints(t *testing.T) {
	for _, f := range []api.Frame{call, reply, cancel, least, most} {
		numbers := told(f)
		for at := range numbers {
			ahead, behind := []byte{0xc7}, []byte{}
			for _, n := range numbers[:at] {
				ahead = binary.AppendUvarint(ahead, n)
			}
			for _, n := range numbers[at+1:] {
				behind = binary.AppendUvarint(behind, n)
			}
			behind = append(behind, f.Payload...)
			own := binary.AppendUvarint(nil, numbers[at])
			put := func(varint []byte) []byte {
				return summed(append(append(bytes.Clone(ahead), varint...), behind...))
			}
			if !bytes.Equal(put(own), written(f)) {
				t.Fatalf("the tests' own, at %d", at)
			}
			for zeros := range 12 {
				checkRefused(t, put(longer(own, zeros)))
			}
			checkRefused(t, put(nil))
			checkRefused(t, put(bytes.Repeat([]byte{0xff}, 10)))
			checkRefused(t, put([]byte("\x80\x80\x80\x80\x80\x80\x80\x80\x80\x02")))
			checkRefused(t, summed(append(bytes.Clone(ahead), 0x80)))
			checkRefused(t, summed(append(bytes.Clone(ahead), 0xff, 0xff)))
		}
	}
}

// longer answers a varint of the same number, but one byte longer, and so many
// zeros more than that.
func longer(varint []byte, zeros int) []byte {
	out := bytes.Clone(varint)
	out[len(out)-1] |= 0x80
	for range zeros {
		out = append(out, 0x80)
	}
	return append(out, 0)
}

// P15.1: numbers that no field has, such also as would be a field's if bits of
// them were lost, with a right sum.
func TestNumbers(t *testing.T) {
	for _, f := range []api.Frame{call, reply, cancel, least, most} {
		for at := range told(f) {
			own := told(f)[at]
			for _, n := range []uint64{own + 1<<8, own + 1<<16, own + 1<<31, own + 1<<32, own + 1<<41, own + 1<<63, own | 1<<63, -own, ^own, math.MaxUint64, 1 << 63, 1<<63 - 1, 1 << 32, 1<<32 + 1, 1<<32 + 5} {
				numbers := told(f)
				numbers[at] = n
				checkLaid(t, numbers, f.Payload)
			}
			for bit := range 64 {
				numbers := told(f)
				numbers[at] ^= 1 << bit
				checkLaid(t, numbers, f.Payload)
			}
		}
	}
}

// checkLaid asks whether those numbers and payload, with a right sum, are a frame's
// bytes: just if each of them is in its range, and the last is the payload's length.
func checkLaid(t *testing.T, n []uint64, payload []byte) {
	t.Helper()
	ok := n[0] >= 1 && n[0] <= 3 && n[1] >= 1 && n[1] <= math.MaxInt32 && n[2] >= 1 &&
		n[3] <= 5 && n[4] >= 1 && n[4] <= n[2] && n[5] <= math.MaxInt32 && n[6] <= 1<<40 &&
		n[7] <= 255 && n[8] == uint64(len(payload)) && n[8] <= 4096 &&
		(n[0] == 2 || n[7] == 0) && (n[0] != 3 || n[8] == 0)
	b := laid(n, payload)
	if !ok {
		checkRefused(t, b)
		return
	}
	want := api.Frame{Kind: int(n[0]), Client: int(n[1]), Token: n[2], Attempt: int(n[3]), Floor: n[4], Method: int(n[5]), Deadline: int64(n[6]), Status: int(n[7]), Payload: payload}
	if f, err := Parse(b); err != api.OK || !alike(f, want) {
		t.Errorf("Parse(%.60x) = %+v, %d, want %+v", b, f, err, want)
	}
}

// P15.1: a length that is another than the payload's, with a right sum.
func TestLength(t *testing.T) {
	for _, size := range []int{0, 1, 3, 4, 5, 127, 128, 300, api.MaxSize} {
		f := with(call, func(f *api.Frame) { f.Payload = bytes.Repeat([]byte{7}, size) })
		checkFrame(t, f)
		for other := range 400 {
			numbers := told(f)
			numbers[8] = uint64(other)
			checkLaid(t, numbers, f.Payload)
		}
		for _, by := range []int{-5, -4, -3, -2, -1, 1, 2, 3, 4, 5, 1 << 8, 1 << 16, 1 << 32} {
			numbers := told(f)
			numbers[8] += uint64(by)
			checkLaid(t, numbers, f.Payload)
		}
	}
	for _, size := range []int{api.MaxSize + 1, api.MaxSize + 4, 1 << 16} {
		payload := make([]byte, size)
		numbers := told(call)
		for _, length := range []int{size, api.MaxSize, size - 4, 0} {
			numbers[8] = uint64(length)
			checkLaid(t, numbers, payload)
		}
	}
}

// P15.1: numbers too few, or too many, with a right sum.
func TestNumbersTooFew(t *testing.T) {
	for _, f := range []api.Frame{call, reply, cancel, least, most} {
		numbers := told(f)
		for n := range numbers {
			checkRefused(t, laid(numbers[:n], nil))
			checkRefused(t, laid(numbers[:n], bytes.Repeat([]byte{0x80}, 30)))
		}
		checkRefused(t, laid(append(told(f), 0), f.Payload))
		checkRefused(t, laid(append([]uint64{0}, numbers...), f.Payload))
	}
}

// P15.1: a sum that is not that of the bytes: another byte order, turned bits, one
// of other bytes, none.
func TestSum(t *testing.T) {
	for _, f := range formedFrames() {
		b := written(f)
		body := b[:len(b)-4]
		sum := crc32.ChecksumIEEE(body)
		others := []uint32{0, math.MaxUint32, ^sum, sum + 1, sum - 1, crc32.ChecksumIEEE(body[1:]), crc32.ChecksumIEEE(body[:len(body)-1]), crc32.ChecksumIEEE(f.Payload), crc32.Checksum(body, crc32.MakeTable(crc32.Castagnoli))}
		for bit := range 32 {
			others = append(others, sum^1<<bit)
		}
		for _, other := range others {
			checkRefused(t, binary.BigEndian.AppendUint32(bytes.Clone(body), other))
		}
		checkRefused(t, binary.LittleEndian.AppendUint32(bytes.Clone(body), sum))
		checkRefused(t, body)
	}
}

// P15.1: each number of a small frame set to any below 128, and the next one to a
// few: those are frames that the words say.
func TestSmallFrames(t *testing.T) {
	for _, start := range [][]uint64{{1, 1, 3, 0, 2, 0, 0, 0, 0}, {2, 1, 3, 0, 2, 0, 0, 9, 0}, {3, 1, 3, 0, 2, 0, 0, 0, 0}} {
		for at := range start {
			for n := range 128 {
				for next := range 4 {
					changed := append([]uint64{}, start...)
					changed[at] = uint64(n)
					changed[(at+1)%9] = uint64(next)
					checkLaid(t, changed, nil)
				}
			}
		}
	}
}

// P15.1: Same where each one field differs.
func TestSame(t *testing.T) {
	changes := []func(*api.Frame){
		func(f *api.Frame) { f.Kind++ },
		func(f *api.Frame) { f.Client++ },
		func(f *api.Frame) { f.Token++ },
		func(f *api.Frame) { f.Attempt++ },
		func(f *api.Frame) { f.Floor++ },
		func(f *api.Frame) { f.Method++ },
		func(f *api.Frame) { f.Deadline++ },
		func(f *api.Frame) { f.Status++ },
		func(f *api.Frame) { f.Payload = append(bytes.Clone(f.Payload), 0) },
		func(f *api.Frame) { f.Kind += 1 << 32 },
		func(f *api.Frame) { f.Client += 1 << 32 },
		func(f *api.Frame) { f.Token += 1 << 63 },
		func(f *api.Frame) { f.Attempt += 1 << 32 },
		func(f *api.Frame) { f.Floor += 1 << 63 },
		func(f *api.Frame) { f.Method += 1 << 32 },
		func(f *api.Frame) { f.Deadline += 1 << 32 },
		func(f *api.Frame) { f.Status += 1 << 32 },
		func(f *api.Frame) { f.Kind = -f.Kind - 1 },
		func(f *api.Frame) { f.Token, f.Floor = f.Floor+1, f.Token },
		func(f *api.Frame) { f.Client, f.Method = f.Method+1, f.Client },
	}
	for _, f := range append(formedFrames(), api.Frame{}, api.Frame{Kind: -3, Client: -1, Status: 999, Payload: make([]byte, 9999)}) {
		twin := with(f, func(f *api.Frame) { f.Payload = bytes.Clone(f.Payload) })
		if !Same(f, f) || !Same(f, twin) || !Same(twin, f) {
			t.Errorf("Same(%+v, itself) = false", f)
		}
		for i, change := range changes {
			other := with(twin, change)
			if Same(f, other) || Same(other, f) {
				t.Errorf("change %d: Same(%+v, %+v)", i, f, other)
			}
		}
	}
}

// P15.1: Same where payloads differ in each one byte, or in their length; nil and
// empty ones are alike.
func TestSamePayload(t *testing.T) {
	set := func(p []byte) api.Frame { return with(call, func(f *api.Frame) { f.Payload = p }) }
	empty := []api.Frame{set(nil), set([]byte{}), set(make([]byte, 0, 7)), set([]byte("abc")[:0])}
	for _, a := range empty {
		for _, b := range empty {
			if !Same(a, b) {
				t.Errorf("Same of %#v and %#v", a.Payload, b.Payload)
			}
		}
		if Same(a, set([]byte{0})) || Same(set([]byte{0}), a) {
			t.Errorf("Same of %#v and a zero", a.Payload)
		}
	}
	long := bytes.Repeat([]byte{3}, 300)
	for i := range long {
		other := bytes.Clone(long)
		other[i] = 4
		if Same(set(long), set(other)) || Same(set(long), set(long[:i])) || Same(set(long[:i]), set(long)) {
			t.Errorf("Same though they differ at %d", i)
		}
	}
}

// R2: what is answered hangs on the arguments alone.
func TestSameAgain(t *testing.T) {
	r := rand.New(rand.NewSource(2))
	first, _ := Build(call)
	read, _ := Parse(first)
	for range 50 {
		f := anyFrame(r)
		b, _ := Build(f)
		Parse(b)
		Parse(first[:r.Intn(len(first))])
		again, err := Build(call)
		if err != api.OK || !bytes.Equal(again, first) {
			t.Fatalf("Build answers %x, %d at another time", again, err)
		}
		if f, err := Parse(first); err != api.OK || !alike(f, read) {
			t.Fatalf("Parse answers %+v, %d at another time", f, err)
		}
	}
	// What stands around the bytes is nothing of theirs.
	wide := append(append([]byte("ahead"), first...), first...)
	if f, err := Parse(wide[5:][:len(first)]); err != api.OK || !alike(f, read) {
		t.Errorf("Parse answers %+v, %d elsewhere", f, err)
	}
}

// R3: Build leaves the payload and its spare room as they are, and answers memory
// of its own.
func TestBuildMakesNewMemory(t *testing.T) {
	for size := range 40 {
		for _, spare := range []int{0, 1, 4, 5, 40, 400} {
			room := bytes.Repeat([]byte{0xa5}, size+spare)
			before := bytes.Clone(room)
			f := with(call, func(f *api.Frame) { f.Payload = room[:size] })
			first, _ := Build(f)
			Formed(f)
			Same(f, f)
			kept := bytes.Clone(first)
			second, _ := Build(f)
			fill(second, 0x11)
			if !bytes.Equal(room, before) {
				t.Fatalf("a payload of %d bytes with room for %d was changed", size, spare)
			}
			fill(room, 0x22)
			if !bytes.Equal(first, kept) {
				t.Fatalf("bytes built of a payload of %d bytes are shared", size)
			}
		}
	}
}

// R3: Parse leaves the bytes and their spare room as they are, and answers a
// payload of its own.
func TestParseMakesNewMemory(t *testing.T) {
	for size := range 40 {
		for _, spare := range []int{0, 1, 4, 40} {
			f := with(reply, func(f *api.Frame) { f.Payload = bytes.Repeat([]byte{7}, size) })
			b := written(f)
			room := append(bytes.Clone(b), bytes.Repeat([]byte{0xa5}, spare)...)
			before := bytes.Clone(room)
			first, err := Parse(room[:len(b)])
			if err != api.OK {
				t.Fatal(err)
			}
			second, _ := Parse(room[:len(b)])
			Parse(room[:len(b)-1])
			Parse(room)
			fill(second.Payload, 0x11)
			if !bytes.Equal(room, before) {
				t.Fatalf("bytes of a frame with a payload of %d were changed", size)
			}
			fill(room, 0x22)
			if !alike(first, f) {
				t.Fatalf("a payload of %d bytes is shared", size)
			}
		}
	}
}

// fill writes over b and its spare room.
func fill(b []byte, with byte) {
	room := b[:cap(b)]
	for i := range room {
		room[i] = with
	}
}

// R1: bytes far too long are refused, whatever they are.
func TestLongBytes(t *testing.T) {
	head := laid(told(call), nil)
	for _, n := range []int{api.MaxSize + 100, 1 << 20} {
		for _, c := range []byte{0, 1, 0x80, 0xc7, 0xff} {
			long := bytes.Repeat([]byte{c}, n)
			checkRefused(t, long)
			checkRefused(t, append(bytes.Clone(head), long...))
			checkRefused(t, summed(append(bytes.Clone(head[:len(head)-4]), long...)))
		}
	}
}

// P15.1: bytes made at random of small numbers, and of large ones, with a right sum:
// some are a frame's, some are not.
func TestRandomBytes(t *testing.T) {
	r := rand.New(rand.NewSource(3))
	frames := 0
	for range 50000 {
		b := []byte{0xc7, byte(r.Intn(4))}
		for len(b) < 10 || r.Intn(8) > 0 {
			if r.Intn(9) == 0 {
				b = append(b, 0x80|byte(r.Intn(128)))
			}
			b = append(b, byte(r.Intn(7)))
		}
		b = summed(b)
		checkBytes(t, b)
		if _, ok := readStrictly(b); ok {
			frames++
		}
	}
	if frames < 200 {
		t.Errorf("%d of 50000 were frames", frames)
	}
}

// P15.1: whatever the bytes are, they are read as they are read strictly; with a
// right sum put behind them too.
func FuzzParse(f *testing.F) {
	for _, known := range formedFrames() {
		f.Add(written(known))
		f.Add(written(known)[1 : len(written(known))-4])
	}
	f.Add([]byte{})
	f.Fuzz(func(t *testing.T, b []byte) {
		checkBytes(t, b)
		checkBytes(t, summed(b))
		checkBytes(t, summed(append([]byte{0xc7}, b...)))
	})
}

// P15.1, P15.2: whatever the fields are, and whichever byte is turned.
func FuzzFrame(f *testing.F) {
	for _, known := range formedFrames() {
		f.Add(known.Kind, known.Client, known.Token, known.Attempt, known.Floor, known.Method, known.Deadline, known.Status, known.Payload, uint16(3), byte(1))
	}
	f.Fuzz(func(t *testing.T, kind, client int, token uint64, attempt int, floor uint64, method int, deadline int64, status int, payload []byte, place uint16, by byte) {
		frame := api.Frame{Kind: kind, Client: client, Token: token, Attempt: attempt, Floor: floor, Method: method, Deadline: deadline, Status: status, Payload: payload}
		checkFrame(t, frame)
		if b, err := Build(frame); err == api.OK && by != 0 {
			checkRefused(t, b[:int(place)%len(b)])
			b[int(place)%len(b)] ^= by
			checkRefused(t, b)
		}
	})
}

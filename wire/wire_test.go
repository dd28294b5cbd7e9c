package wire

import (
	"bytes"
	"strings"
	"testing"

	"courier/api"
	"courier/varint"
)

// pairs are fields with their bytes, all varints the shortest: each type, at
// the edges of numbers and of what belongs to them.
var pairs = []struct {
	f    Field
	want string
}{
	{Field{Number: 1, Type: 0, N: 150}, "\x08\x96\x01"},
	{Field{Number: 1, Type: 0}, "\x08\x00"},
	{Field{Number: 2, Type: 0, N: 127}, "\x10\x7f"},
	{Field{Number: 2, Type: 0, N: 128}, "\x10\x80\x01"},
	{Field{Number: 15, Type: 0, N: 1 << 32}, "\x78\x80\x80\x80\x80\x10"},
	{Field{Number: 16, Type: 0, N: 1<<64 - 1}, "\x80\x01\xff\xff\xff\xff\xff\xff\xff\xff\xff\x01"},
	{Field{Number: api.MaxField, Type: 0, N: 1}, "\xf8\xff\xff\xff\x0f\x01"},
	{Field{Number: api.MaxField - 1, Type: 0, N: 1}, "\xf0\xff\xff\xff\x0f\x01"},
	{Field{Number: 1, Type: 1}, "\x09\x00\x00\x00\x00\x00\x00\x00\x00"},
	{Field{Number: 16, Type: 1, N: 0x8807060504030201}, "\x81\x01\x01\x02\x03\x04\x05\x06\x07\x88"},
	{Field{Number: api.MaxField, Type: 1, N: 1<<64 - 1}, "\xf9\xff\xff\xff\x0f\xff\xff\xff\xff\xff\xff\xff\xff"},
	{Field{Number: 1, Type: 2}, "\x0a\x00"},
	{Field{Number: 1, Type: 2, Data: []byte("ab")}, "\x0a\x02ab"},
	{Field{Number: 2047, Type: 2, Data: []byte("\x80")}, "\xfa\x7f\x01\x80"},
	{Field{Number: 2048, Type: 2, Data: []byte("\x0a\x02ab")}, "\x82\x80\x01\x04\x0a\x02ab"},
	{Field{Number: 3, Type: 2, Data: []byte(strings.Repeat("x", 127))}, "\x1a\x7f" + strings.Repeat("x", 127)},
	{Field{Number: 3, Type: 2, Data: []byte(strings.Repeat("x", 128))}, "\x1a\x80\x01" + strings.Repeat("x", 128)},
	{Field{Number: api.MaxField, Type: 2, Data: []byte("z")}, "\xfa\xff\xff\xff\x0f\x01z"},
	{Field{Number: 1, Type: 5}, "\x0d\x00\x00\x00\x00"},
	{Field{Number: 2, Type: 5, N: 0x84030201}, "\x15\x01\x02\x03\x84"},
	{Field{Number: api.MaxField, Type: 5, N: 1<<32 - 1}, "\xfd\xff\xff\xff\x0f\xff\xff\xff\xff"},
}

// wrong are fields that aren't formed, each by one thing alone but the last.
var wrong = []Field{
	{},
	{Number: 0, Type: 0, N: 1},
	{Number: 0, Type: 1},
	{Number: 0, Type: 2, Data: []byte("a")},
	{Number: 0, Type: 5},
	{Number: -1, Type: 0},
	{Number: -1 << 31, Type: 2},
	{Number: api.MaxField + 1, Type: 0},
	{Number: api.MaxField + 1, Type: 1},
	{Number: api.MaxField + 1, Type: 2},
	{Number: api.MaxField + 1, Type: 5},
	{Number: 1, Type: -1},
	{Number: 1, Type: 3},
	{Number: 1, Type: 4},
	{Number: 1, Type: 6},
	{Number: 1, Type: 7},
	{Number: 1, Type: 8},
	{Number: 1, Type: 10},
	{Number: 1, Type: 0, Data: []byte("a")},
	{Number: 1, Type: 1, Data: []byte("a")},
	{Number: 1, Type: 2, N: 1},
	{Number: 1, Type: 2, N: 2, Data: []byte("ab")},
	{Number: 1, Type: 2, N: 1 << 63},
	{Number: 1, Type: 5, Data: []byte("a")},
	{Number: 1, Type: 5, N: 1 << 32},
	{Number: 1, Type: 5, N: 1<<32 + 1},
	{Number: 1, Type: 5, N: 1<<64 - 1},
	{Number: -7, Type: 9, N: 1 << 40, Data: []byte("a")},
}

func same(f, g Field) bool {
	return f.Number == g.Number && f.Type == g.Type && f.N == g.N && bytes.Equal(f.Data, g.Data)
}

// P2.1: Formed, and Append's bytes, behind whatever was there.
func TestFormedAndAppend(t *testing.T) {
	for _, c := range pairs {
		if !Formed(c.f) {
			t.Errorf("Formed(%v) = false", c.f)
		}
		for _, head := range []string{"", "x", "\x80\xff\x80", c.want} {
			if b, err := Append([]byte(head), c.f); string(b) != head+c.want || err != api.OK {
				t.Errorf("Append(%x, %v) = %x, %d, want %x", head, c.f, b, err, head+c.want)
			}
		}
		if b, err := Append(nil, c.f); string(b) != c.want || err != api.OK {
			t.Errorf("Append(nil, %v) = %x, %d, want %x", c.f, b, err, c.want)
		}
	}
}

// P2.1 and R5: what isn't a field is ErrArg, with no bytes beside it.
func TestNotFormed(t *testing.T) {
	for _, f := range wrong {
		if Formed(f) {
			t.Errorf("Formed(%v) = true", f)
		}
		for _, head := range []string{"", "x"} {
			if b, err := Append([]byte(head), f); len(b) != 0 || err != api.ErrArg {
				t.Errorf("Append(%x, %v) = %x, %d, want ErrArg alone", head, f, b, err)
			}
		}
	}
}

// R4: bytes that are none may be nil or empty, of each type.
func TestNoDataIsNilOrEmpty(t *testing.T) {
	for kind, want := range map[int]string{
		0: "\x08\x00", 1: "\x09\x00\x00\x00\x00\x00\x00\x00\x00", 2: "\x0a\x00", 5: "\x0d\x00\x00\x00\x00",
	} {
		for _, data := range [][]byte{nil, {}, make([]byte, 0, 9)} {
			f := Field{Number: 1, Type: kind, Data: data}
			if b, err := Append(nil, f); !Formed(f) || string(b) != want || err != api.OK {
				t.Errorf("type %d: Append = %x, %d, want %x", kind, b, err, want)
			}
		}
	}
}

func checkTake(t *testing.T, b string, want Field, size int, err api.Errno) {
	t.Helper()
	f, gotSize, gotErr := Take([]byte(b))
	if !same(f, want) || gotSize != size || gotErr != err {
		t.Errorf("Take(%x) = %v, %d, %d, want %v, %d, %d", b, f, gotSize, gotErr, want, size, err)
	}
}

// P2.1: Take answers the first field alone, whatever follows it.
func TestTake(t *testing.T) {
	for _, c := range pairs {
		for _, tail := range []string{"", "\x00", "\x80", "\x0a\x7f", strings.Repeat("\xff", 20)} {
			checkTake(t, c.want+tail, c.f, len(c.want), api.OK)
		}
	}
}

// P2.1: a varint may be longer than the shortest, wherever it stands.
func TestTakeNotShortest(t *testing.T) {
	checkTake(t, "\x88\x00\x05", Field{Number: 1, N: 5}, 3, api.OK)
	checkTake(t, "\x88\x80\x80\x80\x80\x80\x80\x80\x80\x00\x05", Field{Number: 1, N: 5}, 11, api.OK)
	checkTake(t, "\x08\x85\x00", Field{Number: 1, N: 5}, 3, api.OK)
	checkTake(t, "\x08\x80\x80\x80\x80\x80\x80\x80\x80\x80\x00\x07", Field{Number: 1}, 11, api.OK)
	checkTake(t, "\x89\x00\x01\x00\x00\x00\x00\x00\x00\x00", Field{Number: 1, Type: 1, N: 1}, 10, api.OK)
	checkTake(t, "\x0a\x82\x00ab", Field{Number: 1, Type: 2, Data: []byte("ab")}, 5, api.OK)
	checkTake(t, "\x8a\x80\x00\x80\x80\x00a", Field{Number: 1, Type: 2}, 6, api.OK)
	checkTake(t, "\x8d\x00\x01\x00\x00\x00", Field{Number: 1, Type: 5, N: 1}, 6, api.OK)
	checkTake(t, "\xf8\xff\xff\xff\x8f\x00\x01", Field{Number: api.MaxField, N: 1}, 7, api.OK)
}

// P2.1: bytes that end inside the first varint, inside what belongs to the
// field, or inside its bytes are ErrNone.
func TestTakeEndsEarly(t *testing.T) {
	if f, size, err := Take(nil); !same(f, Field{}) || size != 0 || err != api.ErrNone {
		t.Errorf("Take(nil) = %v, %d, %d", f, size, err)
	}
	for _, c := range pairs {
		for cut := range len(c.want) {
			checkTake(t, c.want[:cut], Field{}, 0, api.ErrNone)
		}
	}
	for _, b := range []string{
		"\x80", strings.Repeat("\x80", 9), "\x8b\x80", "\x08" + strings.Repeat("\xff", 9),
		"\x0a\x82", "\x0a\x82\x00a", "\x0a\x80\x80",
	} {
		checkTake(t, b, Field{}, 0, api.ErrNone)
	}
}

// P2.1: a length beyond all that is there is ErrNone, be it the greatest.
func TestTakeLengthBeyond(t *testing.T) {
	for _, length := range []uint64{
		4, 127, 128, 1<<31 - 1, 1 << 31, 1<<32 - 1, 1 << 32, 1<<32 + 3,
		1<<63 - 12, 1<<63 - 1, 1 << 63, 1<<63 + 3, 1<<64 - 12, 1<<64 - 1,
	} {
		b := varint.Append([]byte("\x0a"), length)
		checkTake(t, string(b)+"abc", Field{}, 0, api.ErrNone)
		checkTake(t, string(b), Field{}, 0, api.ErrNone)
	}
}

// P2.1: the first varint's own form, and ErrForm if it is no field's.
func TestTakeWrongKey(t *testing.T) {
	rest := "\x01\x00\x00\x00\x00\x00\x00\x00\x00\x00"
	for kind := range uint64(8) {
		right := kind == 0 || kind == 1 || kind == 2 || kind == 5
		for number, inside := range map[uint64]bool{
			0: false, 1: true, 2: true, api.MaxField - 1: true, api.MaxField: true,
			api.MaxField + 1: false, api.MaxField + 2: false, 1 << 32: false, 1<<32 + 1: false, 1<<61 - 1: false,
		} {
			key := string(varint.Append(nil, 8*number+kind))
			want := api.ErrForm
			if right && inside {
				want = api.OK
			}
			if _, _, err := Take([]byte(key + rest)); err != want {
				t.Errorf("Take of number %d, type %d: %d, want %d", number, kind, err, want)
			}
			if want == api.ErrForm {
				checkTake(t, key+rest, Field{}, 0, api.ErrForm)
				// R6: that it is no field's is asked ahead of what belongs to it.
				checkTake(t, key, Field{}, 0, api.ErrForm)
			}
		}
	}
	checkTake(t, "\x0b", Field{}, 0, api.ErrForm)
	checkTake(t, strings.Repeat("\xff", 9)+"\x02", Field{}, 0, api.ErrForm)
	checkTake(t, "\x88"+strings.Repeat("\x80", 9)+"\x00\x01", Field{}, 0, api.ErrForm)
}

// P2.1: ErrForm, too, if a varint that belongs to the field is none.
func TestTakeWrongContent(t *testing.T) {
	over := strings.Repeat("\x80", 9) + "\x02"
	checkTake(t, "\x08"+over, Field{}, 0, api.ErrForm)
	checkTake(t, "\x0a"+over, Field{}, 0, api.ErrForm)
	checkTake(t, "\x0a"+over+"ab", Field{}, 0, api.ErrForm)
	checkTake(t, "\x08"+strings.Repeat("\xff", 10), Field{}, 0, api.ErrForm)
}

// P2.2: the fields one behind the other, and of each the bytes as they stand.
func TestSplit(t *testing.T) {
	parts := []struct {
		raw string
		f   Field
	}{
		{"\x08\x01", Field{Number: 1, N: 1}},
		{"\x10\x80\x00", Field{Number: 2}},
		{"\x8a\x00\x82\x80\x00ab", Field{Number: 1, Type: 2, Data: []byte("ab")}},
		{"\x0a\x00", Field{Number: 1, Type: 2}},
		{"\x11\x01\x00\x00\x00\x00\x00\x00\x80", Field{Number: 2, Type: 1, N: 1<<63 + 1}},
		{"\x15\x05\x00\x00\x00", Field{Number: 2, Type: 5, N: 5}},
		{"\x08\x01", Field{Number: 1, N: 1}},
		{"\xfa\xff\xff\xff\x0f\x04\x08\x01\x10\x80", Field{Number: api.MaxField, Type: 2, Data: []byte("\x08\x01\x10\x80")}},
	}
	for from := range parts {
		for to := from; to <= len(parts); to++ {
			var all string
			for _, p := range parts[from:to] {
				all += p.raw
			}
			fields, raw, err := Split([]byte(all))
			if len(fields) != to-from || len(raw) != to-from || err != api.OK {
				t.Errorf("Split(%x) = %v, %x, %d", all, fields, raw, err)
				continue
			}
			for i, p := range parts[from:to] {
				if !same(fields[i], p.f) || string(raw[i]) != p.raw {
					t.Errorf("Split(%x): part %d is %v, %x, want %v, %x", all, i, fields[i], raw[i], p.f, p.raw)
				}
			}
		}
	}
}

// P2.2: no bytes are no fields.
func TestSplitNothing(t *testing.T) {
	for _, b := range [][]byte{nil, {}, make([]byte, 0, 9)} {
		if fields, raw, err := Split(b); len(fields) != 0 || len(raw) != 0 || err != api.OK {
			t.Errorf("Split of no bytes = %v, %x, %d", fields, raw, err)
		}
	}
}

// P2.2 and R5: ErrForm alone, if the bytes aren't just fields, wherever that
// is, and if the last field is cut off.
func TestSplitWrong(t *testing.T) {
	bad := []string{
		"\x00", "\x0b", "\x0c\x01", "\x0e", "\x0f", "\x80\x80\x80\x80\x10\x01", "\x80", "\x08", "\x08\x80",
		"\x0a", "\x0a\x01", "\x0a\x02a", "\x0d\x01\x02\x03", "\x09\x01\x02\x03\x04\x05\x06\x07",
		strings.Repeat("\xff", 10), "\x08" + strings.Repeat("\xff", 10), "\x0a" + strings.Repeat("\xff", 9) + "\x01",
	}
	for _, c := range pairs {
		for cut := 1; cut < len(c.want); cut++ {
			bad = append(bad, c.want[:cut])
		}
	}
	for _, b := range bad {
		for _, head := range []string{"", "\x08\x01", "\x0a\x02ab\x15\x05\x00\x00\x00"} {
			if fields, raw, err := Split([]byte(head + b)); len(fields) != 0 || len(raw) != 0 || err != api.ErrForm {
				t.Errorf("Split(%x) = %v, %x, %d, want ErrForm alone", head+b, fields, raw, err)
			}
		}
	}
	if _, _, err := Split([]byte("\x0b\x08\x01")); err != api.ErrForm {
		t.Errorf("Split with a wrong field ahead: %d", err)
	}
}

// steps answers numbers that look as if they had no order, the same each time.
func steps() func() uint64 {
	n := uint64(1)
	return func() uint64 {
		n = n*6364136223846793005 + 1442695040888963407
		return n >> 20
	}
}

// someField answers a formed field of one of the types, chosen by next.
func someField(next func() uint64) Field {
	f := Field{Number: 1 + int(next()%api.MaxField)>>(next()%29), Type: []int{0, 1, 2, 5}[next()%4]}
	switch f.Type {
	case 2:
		for range next() % 200 {
			f.Data = append(f.Data, byte(next()))
		}
	case 5:
		f.N = next() % (1 << 32) >> (next() % 32)
	default:
		f.N = (next()<<32 ^ next()) >> (next() % 64)
	}
	return f
}

// P2.3: Take undoes Append; what Split tells, one behind the other, is b.
func TestThereAndBack(t *testing.T) {
	next := steps()
	for range 500 {
		var all []byte
		var put []Field
		for range next() % 6 {
			f := someField(next)
			b, err := Append(all, f)
			if err != api.OK {
				t.Fatalf("Append of %v: %d", f, err)
			}
			got, size, err := Take(b[len(all):])
			if !same(got, f) || size != len(b)-len(all) || err != api.OK {
				t.Errorf("Take of Append of %v = %v, %d, %d", f, got, size, err)
			}
			all, put = b, append(put, f)
		}
		fields, raw, err := Split(all)
		if len(fields) != len(put) || err != api.OK {
			t.Fatalf("Split(%x) = %d fields, %d, want %d", all, len(fields), err, len(put))
		}
		for i := range put {
			if !same(fields[i], put[i]) {
				t.Errorf("Split(%x): field %d is %v, want %v", all, i, fields[i], put[i])
			}
		}
		if !bytes.Equal(bytes.Join(raw, nil), all) {
			t.Errorf("Split(%x) tells %x", all, raw)
		}
	}
}

// R1 and P2.3: whatever bytes, Take and Split end, with an error alone or with
// formed fields, whose bytes are those that were given.
func TestAnyBytes(t *testing.T) {
	next := steps()
	heads := "\x08\x09\x0a\x0d\x10\x0b\x80\x01\x02\x00"
	split := 0
	for range 20000 {
		var b []byte
		for range next() % 14 {
			c := byte(next())
			if next()%3 != 0 {
				c = heads[int(c)%len(heads)]
			}
			b = append(b, c)
		}
		f, size, err := Take(b)
		if err == api.OK && (!Formed(f) || size < 2 || size > len(b)) {
			t.Errorf("Take(%x) = %v, %d", b, f, size)
		}
		if err != api.OK && (!same(f, Field{}) || size != 0) {
			t.Errorf("Take(%x) = %v, %d beside %d", b, f, size, err)
		}
		fields, raw, err := Split(b)
		if err != api.OK {
			if err != api.ErrForm || len(fields) != 0 || len(raw) != 0 {
				t.Errorf("Split(%x) = %v, %x, %d", b, fields, raw, err)
			}
			continue
		}
		split++
		if len(fields) != len(raw) || !bytes.Equal(bytes.Join(raw, nil), b) {
			t.Errorf("Split(%x) tells %v, %x", b, fields, raw)
		}
	}
	if split < 100 {
		t.Errorf("only %d of the lists were fields", split)
	}
}

// fill writes over b and its spare room.
func fill(b []byte, with byte) {
	room := b[:cap(b)]
	for i := range room {
		room[i] = with
	}
}

// roomy answers a copy of b's bytes with spare room behind it, filled.
func roomy(b string, spare int) []byte {
	whole := bytes.Repeat([]byte{0xa5}, len(b)+spare)
	copy(whole, b)
	return whole[:len(b)]
}

// R3: Append leaves b, the field's bytes and both their spare rooms as they
// are, and answers memory of its own.
func TestAppendMakesNewMemory(t *testing.T) {
	for _, head := range []string{"", "x", "head"} {
		for _, c := range pairs {
			for spare := range 30 {
				b, f := roomy(head, spare), c.f
				f.Data = roomy(string(c.f.Data), spare)
				whole, data := b[:cap(b)], f.Data[:cap(f.Data)]
				wholeBefore, dataBefore := bytes.Clone(whole), bytes.Clone(data)
				first, _ := Append(b, f)
				second, _ := Append(b, f)
				fill(second, 0x11)
				if !bytes.Equal(whole, wholeBefore) || !bytes.Equal(data, dataBefore) {
					t.Errorf("Append(%x, %v) with room for %d changes what it was given", head, c.f, spare)
				}
				fill(whole, 0x22)
				fill(data, 0x33)
				if string(first) != head+c.want {
					t.Errorf("Append(%x, %v) with room for %d answers memory that is shared", head, c.f, spare)
				}
			}
		}
	}
}

// R3: Take leaves its bytes as they are, and answers memory of its own.
func TestTakeMakesNewMemory(t *testing.T) {
	for _, c := range pairs {
		for _, tail := range []string{"", "tail"} {
			b := roomy(c.want+tail, 9)
			whole := b[:cap(b)]
			before := bytes.Clone(whole)
			first, _, _ := Take(b)
			second, _, _ := Take(b)
			fill(second.Data, 0x11)
			if !bytes.Equal(whole, before) {
				t.Errorf("Take(%x) answers its argument's memory, or changes it", c.want)
			}
			fill(whole, 0x22)
			if !same(first, c.f) {
				t.Errorf("Take(%x) answers memory that is shared", c.want)
			}
		}
	}
}

// R3: Split leaves its bytes as they are, and none of the lists that it
// answers shares memory with them or with another of the lists.
func TestSplitMakesNewMemory(t *testing.T) {
	var all string
	for _, c := range pairs {
		all += c.want
	}
	b := roomy(all, 50)
	whole := b[:cap(b)]
	before := bytes.Clone(whole)
	fields, raw, err := Split(b)
	if len(fields) != len(pairs) || len(raw) != len(pairs) || err != api.OK {
		t.Fatalf("Split = %d fields, %d lists, %d", len(fields), len(raw), err)
	}
	// Each list is written over and looked at just ahead of that, so that a
	// list written over by way of another one is found out.
	for i, c := range pairs {
		if string(raw[i]) != c.want || !same(fields[i], c.f) {
			t.Errorf("part %d, %x, shares memory with an earlier one", i, c.want)
		}
		fill(raw[i], 0x11)
		if !same(fields[i], c.f) {
			t.Errorf("part %d, %x: the field shares memory with the bytes", i, c.want)
		}
		fill(fields[i].Data, 0x22)
	}
	for i := range fields {
		if bytes.Contains(raw[i][:cap(raw[i])], []byte{0x22}) {
			t.Errorf("part %d: the bytes share memory with a field's", i)
		}
	}
	if !bytes.Equal(whole, before) {
		t.Error("Split answers its argument's memory, or changes it")
	}
	again, rawAgain, _ := Split(b)
	fill(whole, 0x33)
	for i, c := range pairs {
		if string(rawAgain[i]) != c.want || !same(again[i], c.f) {
			t.Errorf("part %d, %x, shares memory with the argument", i, c.want)
		}
	}
}

// R3: calls that answer an error leave what they were given, too.
func TestErrorsLeaveBytes(t *testing.T) {
	for _, s := range []string{"\x0b\x01", "\x0a\x05ab", "\x08\x01\x08", "\x08\x01\x00", "\x80"} {
		b := roomy(s, 9)
		whole := b[:cap(b)]
		before := bytes.Clone(whole)
		Take(b)
		Split(b)
		for _, f := range wrong {
			Append(b, f)
		}
		if !bytes.Equal(whole, before) {
			t.Errorf("%x was changed to %x", before, whole)
		}
	}
}

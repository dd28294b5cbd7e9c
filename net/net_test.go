package net

import (
	"bytes"
	"math"
	"math/rand"
	"runtime"
	"slices"
	"testing"

	"courier/api"
)

// noPlaces are places of no line, however long it may be.
var noPlaces = []int{math.MinInt, math.MinInt + 1, -api.MaxPackets, -2, -1, api.MaxPackets, api.MaxPackets + 1, 1 << 30, math.MaxInt - 1, math.MaxInt}

// plain is a second net: the packets by their numbers, and the numbers in the line's
// order; each packet with bytes of its own, changed where they lie.
type plain struct {
	line    []int
	packets map[int]*Packet
	last    int
}

func newPlain() *plain { return &plain{packets: map[int]*Packet{}} }

// at answers the packet at the place at; nil, if there is none.
func (p *plain) at(at int) *Packet {
	for i, number := range p.line {
		if i == at {
			return p.packets[number]
		}
	}
	return nil
}

func (p *plain) Send(from, to int, b []byte) (int, api.Errno) {
	if len(p.packets) == 200 {
		return 0, api.ErrFull
	}
	p.last++
	p.packets[p.last] = &Packet{p.last, from, to, slices.Clone(b)}
	p.line = append(p.line, p.last)
	return p.last, api.OK
}

func (p *plain) Len() int { return len(p.packets) }

func (p *plain) All() (all []Packet) {
	for _, number := range p.line {
		all = append(all, *p.packets[number])
	}
	return all
}

func (p *plain) Drop(at int) bool {
	_, ok := p.Deliver(at)
	return ok
}

func (p *plain) Double(at int) (int, api.Errno) {
	one := p.at(at)
	if one == nil {
		return 0, api.ErrNone
	}
	return p.Send(one.From, one.To, one.Bytes)
}

func (p *plain) Deliver(at int) (Packet, bool) {
	one := p.at(at)
	if one == nil {
		return Packet{}, false
	}
	delete(p.packets, one.Number)
	p.line = slices.DeleteFunc(p.line, func(number int) bool { return number == one.Number })
	return *one, true
}

func (p *plain) Damage(at, place int, by byte) bool {
	one := p.at(at)
	if one == nil {
		return false
	}
	for i := range one.Bytes {
		if i == place {
			one.Bytes[i] = one.Bytes[i]&^by | by&^one.Bytes[i]
			return true
		}
	}
	return false
}

// Move takes the packet from neighbour to neighbour.
func (p *plain) Move(at, to int) bool {
	if p.at(at) == nil || p.at(to) == nil {
		return false
	}
	for ; at < to; at++ {
		p.line[at], p.line[at+1] = p.line[at+1], p.line[at]
	}
	for ; at > to; at-- {
		p.line[at], p.line[at-1] = p.line[at-1], p.line[at]
	}
	return true
}

// same tells whether two packets are alike.
func same(a, b Packet) bool {
	return a.Number == b.Number && a.From == b.From && a.To == b.To && bytes.Equal(a.Bytes, b.Bytes)
}

// wantLine fails, if not just these are under way, in this order.
func wantLine(t *testing.T, n *Net, want ...Packet) {
	t.Helper()
	if got := n.Len(); got != len(want) {
		t.Errorf("Len: %d, not %d", got, len(want))
	}
	if got := n.All(); !slices.EqualFunc(got, want, same) {
		t.Errorf("All: %v, not %v", got, want)
	}
}

// wantNumbers fails, if not the packets of just these numbers are under way, in this order.
func wantNumbers(t *testing.T, n *Net, want ...int) {
	t.Helper()
	got := []int{}
	for _, p := range n.All() {
		got = append(got, p.Number)
	}
	if !slices.Equal(got, want) || n.Len() != len(want) {
		t.Errorf("%v (%d), not %v", got, n.Len(), want)
	}
}

// wantSent fails, if Send doesn't answer as told.
func wantSent(t *testing.T, n *Net, from, to int, b []byte, number int, err api.Errno) {
	t.Helper()
	if got, e := n.Send(from, to, b); got != number || e != err {
		t.Errorf("Send(%d, %d, %x): %d %v, not %d %v", from, to, b, got, e, number, err)
	}
}

// wantDoubled fails, if Double doesn't answer as told.
func wantDoubled(t *testing.T, n *Net, at, number int, err api.Errno) {
	t.Helper()
	if got, e := n.Double(at); got != number || e != err {
		t.Errorf("Double(%d): %d %v, not %d %v", at, got, e, number, err)
	}
}

// wantDelivered fails, if Deliver doesn't answer want.
func wantDelivered(t *testing.T, n *Net, at int, want Packet) {
	t.Helper()
	if got, ok := n.Deliver(at); !ok || !same(got, want) {
		t.Errorf("Deliver(%d): %v %v, not %v", at, got, ok, want)
	}
}

// wantDone fails, if what answered got should have answered want.
func wantDone(t *testing.T, what string, got, want bool) {
	t.Helper()
	if got != want {
		t.Errorf("%s: %v, not %v", what, got, want)
	}
}

// wantNoPlace fails, if n takes any of these for a packet's place, or changes.
func wantNoPlace(t *testing.T, n *Net, places ...int) {
	t.Helper()
	before := n.All()
	none := api.ErrNone
	if n == nil {
		none = api.ErrArg
	}
	for _, at := range places {
		wantDone(t, "Drop", n.Drop(at), false)
		wantDoubled(t, n, at, 0, none)
		if p, ok := n.Deliver(at); ok || !same(p, Packet{}) || len(p.Bytes) > 0 {
			t.Errorf("Deliver(%d): %v %v", at, p, ok)
		}
		for _, other := range append([]int{0, 1, len(before) - 1}, places...) {
			wantDone(t, "Damage", n.Damage(at, other, 1), false)
			wantDone(t, "Move", n.Move(at, other), false)
			wantDone(t, "Move", n.Move(other, at), false)
		}
	}
	wantLine(t, n, before...)
}

// sent answers a net of count packets with the numbers 1, 2, 3 .., and these.
func sent(count int) (*Net, []Packet) {
	n := New()
	list := make([]Packet, count)
	for i := range list {
		list[i] = Packet{i + 1, i * 10, -i, []byte{byte(i), 0x55, byte(i * 7)}}
		n.Send(list[i].From, list[i].To, list[i].Bytes)
	}
	return n, list
}

// P18.1: nothing is under way in New, nor in the zero Net; and in both there may be
// packets then.
func TestNothing(t *testing.T) {
	var zero Net
	for _, n := range []*Net{New(), {}, &zero, new(Net)} {
		if n == nil {
			t.Fatal("nil")
		}
		wantLine(t, n)
		wantNoPlace(t, n, append(noPlaces, 0, 1)...)
		wantSent(t, n, 3, 4, []byte("ab"), 1, api.OK)
		wantLine(t, n, Packet{1, 3, 4, []byte("ab")})
		wantDelivered(t, n, 0, Packet{1, 3, 4, []byte("ab")})
		wantLine(t, n)
		wantNoPlace(t, n, append(noPlaces, 0, 1)...)
	}
}

// P18.1: each New is one of its own.
func TestNewEach(t *testing.T) {
	x, y := New(), New()
	wantSent(t, x, 1, 2, []byte{3}, 1, api.OK)
	wantLine(t, y)
	wantSent(t, y, 4, 5, []byte{6}, 1, api.OK)
	wantLine(t, x, Packet{1, 1, 2, []byte{3}})
	wantLine(t, y, Packet{1, 4, 5, []byte{6}})
}

// P18.1, P18.2: the chapter's example.
func TestExample(t *testing.T) {
	n := New()
	wantSent(t, n, 1, 0, []byte("a"), 1, api.OK)
	wantSent(t, n, 2, 0, []byte("b"), 2, api.OK)
	wantDone(t, "Move", n.Move(1, 0), true)
	wantDelivered(t, n, 0, Packet{2, 2, 0, []byte("b")})
	wantLine(t, n, Packet{1, 1, 0, []byte("a")})
}

// P18.1: what is sent comes as it was: no bytes, one, many, any of them; from and to
// whomever.
func TestSend(t *testing.T) {
	every := make([]byte, 256)
	for i := range every {
		every[i] = byte(i)
	}
	ends := []int{math.MinInt, -1 << 31, -2, -1, 0, 1, 2, 9, 1 << 30, math.MaxInt}
	for _, b := range [][]byte{nil, {}, make([]byte, 0, 9), {0}, {255}, []byte("frame"), every, bytes.Repeat(every, 1<<12), make([]byte, api.MaxSize+1)} {
		n := New()
		var want []Packet
		for i, from := range ends {
			to := ends[(i*3+1)%len(ends)]
			wantSent(t, n, from, to, b, i+1, api.OK)
			want = append(want, Packet{i + 1, from, to, b})
			wantLine(t, n, want...)
		}
		for _, p := range want {
			wantDelivered(t, n, 0, p)
		}
		wantLine(t, n)
	}
}

// P18.1: the last one sent stands behind the others, in whatever order these do.
func TestSendLast(t *testing.T) {
	n, _ := sent(3)
	n.Move(2, 0)
	wantSent(t, n, 0, 0, nil, 4, api.OK)
	wantNumbers(t, n, 3, 1, 2, 4)
	n.Move(3, 1)
	wantSent(t, n, 0, 0, nil, 5, api.OK)
	wantNumbers(t, n, 3, 4, 1, 2, 5)
}

// P18.1, P18.2: the numbers are 1, 2, 3 and so on, in the order in which packets were
// sent or doubled, whatever was dropped, delivered or refused between, and none anew.
func TestNumbers(t *testing.T) {
	n := New()
	wantSent(t, n, 1, 2, []byte("a"), 1, api.OK)
	wantDoubled(t, n, 0, 2, api.OK)
	wantDone(t, "Drop", n.Drop(1), true)
	wantSent(t, n, 1, 2, []byte("b"), 3, api.OK)
	wantDelivered(t, n, 1, Packet{3, 1, 2, []byte("b")})
	wantDoubled(t, n, 0, 4, api.OK)
	wantDoubled(t, n, 2, 0, api.ErrNone)
	wantDone(t, "Drop", n.Drop(0), true)
	wantDone(t, "Drop", n.Drop(0), true)
	wantLine(t, n)
	wantDoubled(t, n, 0, 0, api.ErrNone)
	wantSent(t, n, 1, 2, []byte("c"), 5, api.OK)
	wantDone(t, "Move", n.Move(0, 0), true)
	wantDone(t, "Move", n.Move(0, 1), false)
	wantDone(t, "Damage", n.Damage(0, 0, 1), true)
	wantDoubled(t, n, 0, 6, api.OK)
	for i := 7; i <= api.MaxPackets+4; i++ {
		wantSent(t, n, 1, 2, nil, i, api.OK)
	}
	for range 3 {
		wantSent(t, n, 1, 2, nil, 0, api.ErrFull)
		wantDoubled(t, n, 0, 0, api.ErrFull)
		wantDoubled(t, n, -1, 0, api.ErrNone)
	}
	wantDone(t, "Drop", n.Drop(7), true)
	wantSent(t, n, 1, 2, nil, api.MaxPackets+5, api.OK)
}

// P18.1, P18.2: MaxPackets may be under way, sent or doubled, and not one more; and
// there is room again behind one that is gone, wherever it stood.
func TestFull(t *testing.T) {
	for _, doubled := range []int{0, 1, 100, api.MaxPackets - 1} {
		n, want := sent(api.MaxPackets - doubled)
		for i := range doubled {
			from := want[i]
			from.Number = len(want) + 1
			wantDoubled(t, n, i, from.Number, api.OK)
			want = append(want, from)
		}
		wantLine(t, n, want...)
		for i, at := range []int{0, 77, api.MaxPackets - 1} {
			wantFull(t, n, want)
			number := api.MaxPackets + 2*i + 1
			wantDone(t, "Drop", n.Drop(at), true)
			wantSent(t, n, 5, 6, []byte("x"), number, api.OK)
			want = append(slices.Delete(want, at, at+1), Packet{number, 5, 6, []byte("x")})
			wantFull(t, n, want)
			wantDelivered(t, n, at, want[at])
			want = slices.Delete(want, at, at+1)
			twice := want[10]
			twice.Number = number + 1
			wantDoubled(t, n, 10, twice.Number, api.OK)
			want = append(want, twice)
		}
		wantFull(t, n, want)
	}
}

// wantFull fails, if n has not just these packets, takes one more, or isn't asked
// for the packet ahead of for the room.
func wantFull(t *testing.T, n *Net, want []Packet) {
	t.Helper()
	for range 2 {
		wantSent(t, n, 1, 2, []byte("no"), 0, api.ErrFull)
		wantSent(t, n, 0, 0, nil, 0, api.ErrFull)
		for _, at := range []int{0, 1, 100, api.MaxPackets - 1} {
			wantDoubled(t, n, at, 0, api.ErrFull)
		}
		for _, at := range noPlaces {
			wantDoubled(t, n, at, 0, api.ErrNone)
		}
	}
	wantLine(t, n, want...)
}

// P18.2: in a full line packets are damaged and moved as in any other.
func TestFullChanged(t *testing.T) {
	n, want := sent(api.MaxPackets)
	wantDone(t, "Move", n.Move(api.MaxPackets-1, 0), true)
	want = slices.Insert(want[:api.MaxPackets-1], 0, want[api.MaxPackets-1])
	wantDone(t, "Damage", n.Damage(api.MaxPackets-1, 2, 0x80), true)
	want[api.MaxPackets-1].Bytes[2] ^= 0x80
	wantLine(t, n, want...)
	wantNoPlace(t, n, noPlaces...)
}

// places are all places of lines with 1 to 6 packets, and those of longer ones that
// are their first, their last, and some in the middle.
func places(do func(count, at int)) {
	for count := 1; count <= 6; count++ {
		for at := range count {
			do(count, at)
		}
	}
	for _, count := range []int{31, 150, api.MaxPackets} {
		for _, at := range []int{0, 1, count / 2, count - 2, count - 1} {
			do(count, at)
		}
	}
}

// P18.2: what is dropped is gone, at each place, and it alone; places that aren't
// there, one behind the last and those below 0, change nothing.
func TestDrop(t *testing.T) {
	places(func(count, at int) {
		n, want := sent(count)
		wantNoPlace(t, n, append(noPlaces, count, count+1)...)
		wantDone(t, "Drop", n.Drop(at), true)
		wantLine(t, n, slices.Delete(want, at, at+1)...)
		wantDone(t, "Drop", n.Drop(count-1), false)
	})
}

// P18.2: what is delivered is answered whole, and is gone, and it alone.
func TestDeliver(t *testing.T) {
	places(func(count, at int) {
		n, want := sent(count)
		wantDelivered(t, n, at, want[at])
		wantLine(t, n, slices.Delete(want, at, at+1)...)
		wantNoPlace(t, n, count-1)
	})
}

// P18.2: a packet is doubled behind the others, with another number and else alike;
// the first one stays where and as it is.
func TestDouble(t *testing.T) {
	places(func(count, at int) {
		if count == api.MaxPackets {
			return
		}
		n, want := sent(count)
		wantDoubled(t, n, count, 0, api.ErrNone)
		wantDoubled(t, n, at, count+1, api.OK)
		want = append(want, Packet{count + 1, want[at].From, want[at].To, want[at].Bytes})
		wantLine(t, n, want...)
		if n.Len() < api.MaxPackets {
			wantDoubled(t, n, count, count+2, api.OK)
			wantLine(t, n, append(want, Packet{count + 2, want[at].From, want[at].To, want[at].Bytes})...)
		}
	})
}

// P18.2: doubled is what the packet is now, not what was sent; also one of no bytes.
func TestDoubleDamaged(t *testing.T) {
	n := New()
	n.Send(7, -7, []byte{1, 2})
	n.Send(8, -8, nil)
	wantDone(t, "Damage", n.Damage(0, 1, 0xf0), true)
	wantDoubled(t, n, 0, 3, api.OK)
	wantDoubled(t, n, 1, 4, api.OK)
	wantLine(t, n, Packet{1, 7, -7, []byte{1, 0xf2}}, Packet{2, 8, -8, nil}, Packet{3, 7, -7, []byte{1, 0xf2}}, Packet{4, 8, -8, nil})
}

// P18.2: a packet and those doubled of it are damaged, dropped and delivered each
// alone, in whatever order.
func TestDoubledApart(t *testing.T) {
	orders([]int{0, 1, 2, 3}, 0, func(order []int) {
		n := New()
		n.Send(1, 2, []byte{0x10, 0x20, 0x30})
		n.Double(0)
		n.Double(0)
		n.Double(1)
		want := n.All()
		for i, at := range order {
			wantDone(t, "Damage", n.Damage(at, i%3, byte(1<<i)), true)
			want[at].Bytes[i%3] ^= byte(1 << i)
			wantLine(t, n, want...)
		}
		wantDelivered(t, n, order[0], want[order[0]])
		want = slices.Delete(want, order[0], order[0]+1)
		wantLine(t, n, want...)
		wantDone(t, "Drop", n.Drop(1), true)
		wantLine(t, n, slices.Delete(want, 1, 2)...)
	})
}

// orders does do with list in each of its orders, of which the first at stay.
func orders(list []int, at int, do func([]int)) {
	if at == len(list) {
		do(list)
		return
	}
	list = slices.Clone(list)
	for i := at; i < len(list); i++ {
		list[at], list[i] = list[i], list[at]
		orders(list, at+1, do)
	}
}

// P18.2: a byte is damaged at each place of packets, by each byte, and it alone; by 0
// it stays, and by the same twice it is as it was.
func TestDamage(t *testing.T) {
	places(func(count, at int) {
		n, want := sent(count)
		for place := range 3 {
			for _, by := range []byte{0, 1, 0x80, 0xff, 0x5a} {
				was := want[at].Bytes[place]
				wantDone(t, "Damage", n.Damage(at, place, by), true)
				want[at].Bytes[place] = was ^ by
				wantLine(t, n, want...)
				wantDone(t, "Damage", n.Damage(at, place, by), true)
				want[at].Bytes[place] = was
				wantLine(t, n, want...)
				wantDone(t, "Damage", n.Damage(at, place, by), true)
				want[at].Bytes[place] = was ^ by
			}
		}
		wantDelivered(t, n, at, want[at])
	})
}

// P18.2: every byte by every byte.
func TestDamageBy(t *testing.T) {
	for was := range 256 {
		n := New()
		n.Send(1, 2, []byte{byte(was)})
		sum := byte(was)
		for by := range 256 {
			wantDone(t, "Damage", n.Damage(0, 0, byte(by)), true)
			sum ^= byte(by)
			if got := n.All()[0].Bytes; len(got) != 1 || got[0] != sum {
				t.Fatal(was, by, got)
			}
		}
	}
}

// P18.2: one byte behind a packet's last, and below its first, there is none, nor
// anywhere in a packet without bytes.
func TestDamageNoPlace(t *testing.T) {
	for _, size := range []int{0, 1, 2, 8, 9, 300} {
		n := New()
		b := bytes.Repeat([]byte{7}, size)
		n.Send(1, 2, b)
		n.Send(3, 4, make([]byte, 1000))
		for _, place := range []int{size, size + 1, size + 7, 1 << 30, math.MaxInt, -1, -2, -size - 1, math.MinInt} {
			for _, by := range []byte{0, 1, 255} {
				wantDone(t, "Damage", n.Damage(0, place, by), false)
			}
		}
		wantLine(t, n, Packet{1, 1, 2, b}, Packet{2, 3, 4, make([]byte, 1000)})
		if size > 0 {
			wantDone(t, "Damage", n.Damage(0, size-1, 1), true)
			wantDone(t, "Damage", n.Damage(0, 0, 2), true)
		}
	}
}

// P18.2: a packet is moved to each place from each: to the front, to the back, onto
// its own, between others; they stay in their order about it.
func TestMove(t *testing.T) {
	for count := 1; count <= 7; count++ {
		for at := range count {
			for to := range count {
				n, list := sent(count)
				wantDone(t, "Move", n.Move(at, to), true)
				rest := slices.Concat(list[:at], list[at+1:])
				wantLine(t, n, slices.Concat(rest[:to], list[at:at+1], rest[to:])...)
				wantDone(t, "Move", n.Move(to, at), true)
				wantLine(t, n, list...)
			}
		}
	}
}

// P18.2: moves by the numbers, written out.
func TestMoveNumbers(t *testing.T) {
	for _, one := range []struct {
		at, to int
		want   []int
	}{
		{0, 0, []int{1, 2, 3, 4, 5}},
		{0, 1, []int{2, 1, 3, 4, 5}},
		{0, 2, []int{2, 3, 1, 4, 5}},
		{0, 4, []int{2, 3, 4, 5, 1}},
		{4, 0, []int{5, 1, 2, 3, 4}},
		{4, 3, []int{1, 2, 3, 5, 4}},
		{4, 4, []int{1, 2, 3, 4, 5}},
		{1, 3, []int{1, 3, 4, 2, 5}},
		{3, 1, []int{1, 4, 2, 3, 5}},
		{2, 2, []int{1, 2, 3, 4, 5}},
	} {
		n, _ := sent(5)
		wantDone(t, "Move", n.Move(one.at, one.to), true)
		wantNumbers(t, n, one.want...)
	}
}

// P18.2: to a place that isn't there nothing is moved, be the packet there or not;
// one behind the last one is no place.
func TestMoveNoPlace(t *testing.T) {
	for _, count := range []int{0, 1, 2, 5, api.MaxPackets} {
		n, want := sent(count)
		for at := range count + 2 {
			for _, to := range append(noPlaces, count, count+1) {
				wantDone(t, "Move", n.Move(at, to), false)
				wantDone(t, "Move", n.Move(to, at), false)
			}
		}
		wantLine(t, n, want...)
	}
}

// P18.1, P18.2, R1: a nil Net answers ErrArg where that is an Errno, and zero else.
func TestNil(t *testing.T) {
	var n *Net
	for range 2 {
		wantSent(t, n, 1, 2, []byte("a"), 0, api.ErrArg)
		wantSent(t, n, 0, 0, nil, 0, api.ErrArg)
		wantNoPlace(t, n, append(noPlaces, 0, 1)...)
		wantLine(t, n)
	}
}

// play does one of all calls, as number tells, and holds its answer against a plain net's.
func play(t *testing.T, n *Net, p *plain, number func(int) int) {
	t.Helper()
	at, to := place(n.Len(), number), place(n.Len(), number)
	switch number(9) {
	case 0, 1, 2:
		b := make([]byte, number(6), 8)
		for i := range b {
			b[i] = byte(number(256))
		}
		from, to := number(20)-9, number(20)-9
		want, err := p.Send(from, to, b)
		wantSent(t, n, from, to, b, want, err)
		fill(b, 0xee)
	case 3:
		wantDone(t, "Drop", n.Drop(at), p.Drop(at))
	case 4:
		want, err := p.Double(at)
		wantDoubled(t, n, at, want, err)
	case 5:
		want, is := p.Deliver(at)
		got, ok := n.Deliver(at)
		if ok != is || !same(got, want) {
			t.Errorf("Deliver(%d): %v %v, not %v %v", at, got, ok, want, is)
		}
		fill(got.Bytes, 0xdd)
	case 6:
		place, by := number(8)-1, byte(number(256))
		wantDone(t, "Damage", n.Damage(at, place, by), p.Damage(at, place, by))
	default:
		wantDone(t, "Move", n.Move(at, to), p.Move(at, to))
	}
	if got := n.Len(); got != p.Len() {
		t.Errorf("Len: %d, not %d", got, p.Len())
	}
}

// place answers most often a place of a line of so many, else one just beside it, or any.
func place(count int, number func(int) int) int {
	if number(40) == 0 {
		return noPlaces[number(len(noPlaces))]
	}
	return number(count+2) - number(8)/7
}

// P18.1, P18.2: long scripts of every call, held against a plain list.
func TestMany(t *testing.T) {
	for seed := range int64(80) {
		r := rand.New(rand.NewSource(seed))
		n, p := New(), newPlain()
		for range 400 {
			play(t, n, p, r.Intn)
			wantLine(t, n, p.All()...)
		}
		for range 1200 {
			play(t, n, p, r.Intn)
		}
		wantLine(t, n, p.All()...)
		if t.Failed() {
			t.Fatal("seed", seed)
		}
	}
}

// P18.1, P18.2: long scripts in a net that is full, or nearly so.
func TestManyFull(t *testing.T) {
	for seed := range int64(20) {
		r := rand.New(rand.NewSource(seed))
		n, p := New(), newPlain()
		for range api.MaxPackets + r.Intn(2) - 1 {
			n.Send(1, 2, []byte{9, 8, 7})
			p.Send(1, 2, []byte{9, 8, 7})
		}
		for range 600 {
			play(t, n, p, r.Intn)
			if p.Len() < api.MaxPackets-1 {
				n.Double(0)
				p.Double(0)
			}
		}
		wantLine(t, n, p.All()...)
	}
}

// R2: what it answers depends on the net's history alone: twice the same, and not on
// what is done to another one between.
func TestSameAgain(t *testing.T) {
	history := func(beside *Net) []Packet {
		r := rand.New(rand.NewSource(18))
		n, p := New(), newPlain()
		for i := range 500 {
			play(t, n, p, r.Intn)
			beside.Send(i, i, []byte{byte(i)})
			beside.Double(i / 2)
			beside.Drop(i % 7)
			beside.Move(i%5, 0)
		}
		return n.All()
	}
	want := history(nil)
	for _, beside := range []*Net{nil, New()} {
		if !slices.EqualFunc(history(beside), want, same) {
			t.Error("not the same again")
		}
	}
}

// R2: asking changes nothing.
func TestAskingChangesNothing(t *testing.T) {
	n, want := sent(4)
	n.Double(1)
	want = append(want, Packet{5, want[1].From, want[1].To, want[1].Bytes})
	for range 3 {
		wantLine(t, n, want...)
	}
	wantSent(t, n, 0, 0, nil, 6, api.OK)
}

// R3: what is handed to Send is left as it is, its spare room too, and not kept:
// changed behind the call, it doesn't change the net.
func TestSendKeepsNothing(t *testing.T) {
	for size := range 40 {
		for _, spare := range []int{0, 1, 8, 50} {
			room := bytes.Repeat([]byte{0x3c}, size+spare)
			before := bytes.Clone(room)
			want := Packet{1, 5, 6, before[:size]}
			n := New()
			n.Send(5, 6, room[:size])
			n.Double(0)
			n.Damage(1, 0, 0xff)
			if !bytes.Equal(room, before) {
				t.Fatal("changed", size, spare)
			}
			fill(room, 0x11)
			n.Drop(1)
			wantLine(t, n, want)
			wantDelivered(t, n, 0, want)
		}
	}
}

// R3: what is answered is memory of its own, spare room too: changed behind the call,
// it changes neither the net nor another answer, nor is it changed by later calls.
func TestAnswersApart(t *testing.T) {
	for size := range 20 {
		n := New()
		b := bytes.Repeat([]byte{0x3c}, size)
		for i := range 5 {
			n.Send(i, i, b)
		}
		n.Double(0)
		n.Double(0)
		n.Move(6, 2)
		first, second := n.All(), n.All()
		want := slices.Clone(first)
		for i := range want {
			want[i].Bytes = bytes.Clone(first[i].Bytes)
		}
		spoil(second)
		wantLine(t, n, want...)
		p, _ := n.Deliver(0)
		q, _ := n.Deliver(1)
		fill(p.Bytes, 0x44)
		if !same(q, want[2]) {
			t.Error("one delivered shares with another", size)
		}
		fill(q.Bytes, 0x55)
		wantLine(t, n, want[1], want[3], want[4], want[5], want[6])
		for range 3 {
			n.Damage(0, 0, 1)
			n.Move(2, 0)
			n.Drop(1)
			n.Send(8, 8, b)
		}
		if !slices.EqualFunc(first, want, same) {
			t.Error("an answer was changed", size)
		}
	}
}

// R3: no two packets of one answer share bytes, be they doubled or not.
func TestPacketsApart(t *testing.T) {
	for size := 1; size < 20; size++ {
		n := New()
		n.Send(1, 2, bytes.Repeat([]byte{0x3c}, size))
		n.Double(0)
		n.Double(1)
		for i := range 3 {
			all := n.All()
			fill(all[i].Bytes, 0x11)
			for k, p := range all {
				if k != i && !bytes.Equal(p.Bytes, bytes.Repeat([]byte{0x3c}, size)) {
					t.Error(size, i, k, p)
				}
			}
		}
	}
}

// fill writes over b and its spare room.
func fill(b []byte, with byte) {
	room := b[:cap(b)]
	for i := range room {
		room[i] = with
	}
}

// spoil writes over all of list, its bytes, and its spare room.
func spoil(list []Packet) {
	for _, p := range list {
		fill(p.Bytes, 0x99)
	}
	room := list[:cap(list)]
	for i := range room {
		room[i] = Packet{-1, -1, -1, []byte("spoilt")}
	}
}

// R5: beside an error, or a false, nothing is answered, and nothing has changed.
func TestErrorsChangeNothing(t *testing.T) {
	for _, count := range []int{0, 1, 3, api.MaxPackets} {
		n, want := sent(count)
		wantNoPlace(t, n, append(noPlaces, count)...)
		if count == api.MaxPackets {
			wantFull(t, n, want)
		}
		wantLine(t, n, want...)
		n.Drop(0)
		wantSent(t, n, 0, 0, nil, count+1, api.OK)
	}
}

// R1, R2: a copy of a Net is one of its own: what is done to one of them doesn't
// touch the other.
func TestCopies(t *testing.T) {
	for seed := range int64(60) {
		r := rand.New(rand.NewSource(seed))
		n, p := New(), newPlain()
		for range r.Intn(400) {
			play(t, n, p, r.Intn)
		}
		m, q := *n, newPlain()
		q.line, q.last = slices.Clone(p.line), p.last
		for number, one := range p.packets {
			q.packets[number] = &Packet{one.Number, one.From, one.To, bytes.Clone(one.Bytes)}
		}
		for range 60 {
			play(t, n, p, r.Intn)
			play(t, &m, q, r.Intn)
			wantLine(t, n, p.All()...)
			wantLine(t, &m, q.All()...)
		}
	}
}

// LANGUAGE.md's rule 8: of what is gone nothing is kept, nor of what was refused, nor
// the spare room of what was sent.
func TestNothingKept(t *testing.T) {
	const size = 1 << 16
	n := New()
	before := inUse()
	for i := range 2000 {
		n.Send(1, 2, make([]byte, size))
		n.Send(1, 2, make([]byte, size))
		n.Double(i % 2)
		n.Damage(0, i, 1)
		n.Damage(2, i, 1)
		n.Move(0, 2)
		n.Drop(0)
		n.Deliver(1)
		n.Drop(0)
	}
	for i := range api.MaxPackets {
		n.Send(1, 2, make([]byte, i%2, size))
	}
	if grown := inUse() - before; grown > 1<<20 {
		t.Error(grown)
	}
	before = inUse()
	for range 1000 {
		n.Send(1, 2, make([]byte, size))
		n.Double(0)
		n.Double(-1)
	}
	if grown := inUse() - before; grown > 1<<20 {
		t.Error(grown)
	}
	runtime.KeepAlive(n)
}

// LANGUAGE.md's rule 8: of those that went from the back, or from the front, nothing
// is kept, while one that is still under way is.
func TestNothingKeptBesideOne(t *testing.T) {
	gone := []func(n *Net){
		func(n *Net) { n.Drop(n.Len() - 1) },
		func(n *Net) { n.Drop(0) },
		func(n *Net) { n.Deliver(n.Len() - 1) },
		func(n *Net) { n.Deliver(0) },
	}
	for i, goes := range gone {
		n := New()
		before := inUse()
		for range api.MaxPackets {
			n.Send(1, 2, make([]byte, 1<<16))
		}
		for n.Len() > 1 {
			goes(n)
		}
		if grown := inUse() - before; grown > 1<<20 {
			t.Error(i, grown)
		}
		runtime.KeepAlive(n)
	}
}

// inUse answers how many bytes are in use.
func inUse() int64 {
	runtime.GC()
	runtime.GC()
	var stats runtime.MemStats
	runtime.ReadMemStats(&stats)
	return int64(stats.HeapAlloc)
}

// P18.1, P18.2, R1: whatever is done, at whatever places.
func FuzzAll(f *testing.F) {
	f.Add([]byte("send some, double some, move, damage and deliver them all"))
	f.Add(bytes.Repeat([]byte{1, 2, 0, 3, 7, 5, 250, 4}, 40))
	f.Fuzz(func(t *testing.T, b []byte) {
		n, p := &Net{}, newPlain()
		number := func(most int) int {
			if len(b) == 0 {
				return 0
			}
			first := int(b[0])
			b = b[1:]
			return first % most
		}
		for len(b) > 0 {
			play(t, n, p, number)
			wantLine(t, n, p.All()...)
		}
	})
}

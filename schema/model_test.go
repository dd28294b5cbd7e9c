package schema

import (
	"fmt"
	"math/rand"
	"reflect"
	"slices"
	"strings"
	"testing"

	"courier/api"
	"courier/ident"
	"courier/parse"
	"courier/scope"
)

// fault is something wrong in declarations, and what is answered of it.
type fault struct {
	at  api.Pos
	err api.Errno
}

// entry is a declaration; in is the number of the one that it lies in, or -1.
type entry struct {
	parse.Decl
	whole string
	in    int
}

// entries answers all declarations of list, by a stack and without recursion.
func entries(list []parse.Decl) []entry {
	type waiting struct {
		d  parse.Decl
		in int
	}
	var stack []waiting
	push := func(list []parse.Decl, in int) {
		for _, d := range slices.Backward(list) {
			stack = append(stack, waiting{d, in})
		}
	}
	push(list, -1)
	var out []entry
	for len(stack) > 0 {
		w := stack[len(stack)-1]
		stack = stack[:len(stack)-1]
		e := entry{w.d, w.d.Name, w.in}
		if w.in >= 0 {
			e.whole = out[w.in].whole + "." + w.d.Name
		}
		out = append(out, e)
		push(w.d.Inner, len(out)-1)
	}
	return out
}

// modelFaults answers all faults of formed declarations but rings, round by round
// and in each in the order of asking, by going through all pairs.
func modelFaults(list []parse.Decl) []fault {
	all := entries(list)
	var rounds [4][]fault
	tell := func(round int, wrong bool, at api.Pos) {
		errs := []api.Errno{api.ErrLong, api.ErrName, api.ErrNumber, api.ErrType}
		if wrong {
			rounds[round] = append(rounds[round], fault{at, errs[round]})
		}
	}
	var counts [4]int
	for i, e := range all {
		counts[e.Kind]++
		tell(0, e.Kind < 3 && counts[e.Kind] > api.MaxTypes, e.At)
		for _, before := range all[:i] {
			tell(1, before.in == e.in && before.Name == e.Name, e.At)
		}
		for k, f := range e.Fields {
			tell(0, k >= api.MaxFields, f.At)
			n := f.Number
			tell(2, n == 0 || n > api.MaxField || n/1000 == 19, f.At)
			for _, before := range e.Fields[:k] {
				tell(1, before.Name == f.Name, f.At)
				tell(2, before.Number == f.Number, f.At)
			}
			for _, inner := range e.Inner {
				tell(1, inner.Name == f.Name, f.At)
			}
			_, ok := scope.Find(list, e.whole, f.Type)
			tell(3, !ok && !slices.Contains(typeWords, f.Type), f.At)
		}
		tell(2, e.Kind == 2 && len(e.Values) == 0, e.At)
		for k, v := range e.Values {
			tell(2, k == 0 && v.Number != 0, v.At)
			for _, before := range e.Values[:k] {
				tell(1, before.Name == v.Name, v.At)
				tell(2, before.Number == v.Number, v.At)
			}
		}
		for k, m := range e.Methods {
			counts[0]++
			tell(0, counts[0] > api.MaxMethods, m.At)
			for _, before := range e.Methods[:k] {
				tell(1, before.Name == m.Name, m.At)
			}
			in, _ := scope.Find(list, "", m.In)
			out, _ := scope.Find(list, "", m.Out)
			tell(3, in.Kind != 1 || out.Kind != 1, m.At)
		}
	}
	return slices.Concat(rounds[:]...)
}

// modelSchema answers the schema of declarations that have none of those faults.
func modelSchema(list []parse.Decl) api.Schema {
	var s api.Schema
	var names [3][]string
	for _, sym := range scope.All(list) {
		if sym.Kind < 3 {
			names[sym.Kind] = append(names[sym.Kind], sym.Name)
		}
	}
	for _, e := range entries(list) {
		switch e.Kind {
		case 1:
			m := api.MessageDef{Name: e.whole}
			for _, f := range e.Fields {
				def := api.FieldDef{Number: f.Number, Name: f.Name, Kind: 1 + slices.Index(typeWords, f.Type), Repeated: f.Repeated}
				if def.Kind == 0 {
					sym, _ := scope.Find(list, e.whole, f.Type)
					def.Kind = 11 - sym.Kind
					def.Type = slices.Index(names[sym.Kind], sym.Name)
				}
				at := 0
				for at < len(m.Fields) && m.Fields[at].Number < f.Number {
					at++
				}
				m.Fields = slices.Insert(m.Fields, at, def)
			}
			s.Messages = append(s.Messages, m)
		case 2:
			d := api.EnumDef{Name: e.whole}
			for _, v := range e.Values {
				d.Values = append(d.Values, api.ValueDef{Name: v.Name, Number: v.Number})
			}
			s.Enums = append(s.Enums, d)
		case 3:
			for _, m := range e.Methods {
				in, _ := scope.Find(list, "", m.In)
				out, _ := scope.Find(list, "", m.Out)
				s.Methods = append(s.Methods, api.MethodDef{ID: 1 + len(s.Methods), Service: e.Name, Name: m.Name, In: slices.Index(names[1], in.Name), Out: slices.Index(names[1], out.Name)})
			}
		}
	}
	return s
}

// modelRing answers the first message that needs itself, or -1, by a table of which
// needs which, by others too.
func modelRing(messages []api.MessageDef) int {
	count := len(messages)
	needs := make([][]bool, count)
	for i, m := range messages {
		needs[i] = make([]bool, count)
		for _, f := range m.Fields {
			if f.Kind == api.Message && !f.Repeated {
				needs[i][f.Type] = true
			}
		}
	}
	for by := range count {
		for i := range count {
			for k := range count {
				needs[i][k] = needs[i][k] || needs[i][by] && needs[by][k]
			}
		}
	}
	for i := range count {
		if needs[i][i] {
			return i
		}
	}
	return -1
}

// checkModel asks that Check answers of formed declarations what the model does; it
// answers the error.
func checkModel(t *testing.T, list []parse.Decl) api.Errno {
	t.Helper()
	if found := modelFaults(list); len(found) > 0 {
		checkFault(t, list, found[0].at, found[0].err)
		return found[0].err
	}
	want := modelSchema(list)
	if ring := modelRing(want.Messages); ring >= 0 {
		for _, e := range entries(list) {
			if e.whole == want.Messages[ring].Name {
				checkFault(t, list, e.At, api.ErrCycle)
			}
		}
		return api.ErrCycle
	}
	s, at, err := Check(list)
	if !Same(s, want) || !reflect.DeepEqual(texts(s), texts(want)) || at != (api.Pos{}) || err != api.OK {
		t.Errorf("Check(%s) = %+v, %v, %d, want %+v", show(list), s, at, err, want)
	}
	// An enum's whole name may be no path, if it lies in messages that lie MaxNest deep.
	longNames := slices.ContainsFunc(s.Enums, func(e api.EnumDef) bool { return strings.Count(e.Name, ".") >= api.MaxNest })
	if !longNames {
		checkThird(t, s)
	}
	if formedModel(s) == longNames {
		t.Errorf("the model says otherwise of %+v", s)
	}
	return api.OK
}

// formedModel answers whether s is formed, by going through all pairs.
func formedModel(s api.Schema) bool {
	ok := len(s.Messages) <= api.MaxTypes && len(s.Enums) <= api.MaxTypes && len(s.Methods) <= api.MaxMethods
	name := func(s string) bool { return ident.Name(s) && !ident.Reserved(s) }
	var types []string
	types = append(types, mapped(s.Messages, func(m api.MessageDef) string { return m.Name })...)
	types = append(types, mapped(s.Enums, func(e api.EnumDef) string { return e.Name })...)
	for _, path := range types {
		parts := strings.Split(path, ".")
		ok = ok && len(parts) <= api.MaxNest && !slices.ContainsFunc(parts, func(s string) bool { return !name(s) })
	}
	ok = ok && distinct(types)
	for _, m := range s.Messages {
		numbers := mapped(m.Fields, func(f api.FieldDef) int { return f.Number })
		ok = ok && len(m.Fields) <= api.MaxFields && slices.IsSorted(numbers) && distinct(numbers)
		ok = ok && distinct(mapped(m.Fields, func(f api.FieldDef) string { return f.Name }))
		for _, f := range m.Fields {
			types := map[int]int{api.Enum: len(s.Enums), api.Message: len(s.Messages)}
			for kind := range 8 {
				types[1+kind] = 1
			}
			ok = ok && 0 <= f.Type && f.Type < types[f.Kind] && name(f.Name)
			ok = ok && f.Number > 0 && f.Number <= api.MaxField && f.Number/1000 != 19
		}
	}
	for _, e := range s.Enums {
		numbers := mapped(e.Values, func(v api.ValueDef) int { return v.Number })
		ok = ok && slices.Index(numbers, 0) == 0 && slices.Min(numbers) == 0 && slices.Max(numbers) <= most && distinct(numbers)
		names := mapped(e.Values, func(v api.ValueDef) string { return v.Name })
		ok = ok && distinct(names) && !slices.ContainsFunc(names, func(s string) bool { return !name(s) })
	}
	for i, m := range s.Methods {
		ok = ok && m.ID == 1+i && name(m.Service) && name(m.Name)
		ok = ok && min(m.In, m.Out) >= 0 && max(m.In, m.Out) < len(s.Messages)
	}
	ok = ok && distinct(mapped(s.Methods, func(m api.MethodDef) string { return m.Service + " " + m.Name }))
	return ok && modelRing(s.Messages) < 0
}

// mapped answers what of makes of each of list.
func mapped[T, U any](list []T, of func(T) U) []U {
	var out []U
	for _, one := range list {
		out = append(out, of(one))
	}
	return out
}

// distinct answers whether no two of list are alike.
func distinct[T comparable](list []T) bool {
	for i, one := range list {
		if slices.Contains(list[:i], one) {
			return false
		}
	}
	return true
}

// dice make declarations, at random but always the same. The rarer a fault is among
// them, the more of them are right.
type dice struct {
	*rand.Rand
	rare int
	line int
}

func (r *dice) pick(list ...string) string { return list[r.Intn(len(list))] }

// seldom answers whether something wrong is to be made.
func (r *dice) seldom() bool { return r.Intn(r.rare) == 0 }

// at answers a place of its own.
func (r *dice) at() api.Pos {
	r.line++
	return api.Pos{Line: r.line, Col: 1 + r.Intn(50)}
}

// name answers a name that isn't among those that are there, but seldom.
func (r *dice) name(there ...string) string {
	for {
		name := r.pick("A", "B", "C", "D", "λ", "x", "y", "z", "u")
		if !slices.Contains(there, name) || r.seldom() {
			return name
		}
		if len(there) > 7 {
			return fmt.Sprint(name, r.Intn(100))
		}
	}
}

// number answers a number that isn't among those that are there, but seldom.
func (r *dice) number(there ...int) int {
	for {
		n := 1 + r.Intn(20)
		if r.seldom() {
			n = []int{0, 1, 18999, 19000, 19999, 20000, api.MaxField, api.MaxField + 1, most}[r.Intn(9)]
		}
		if !slices.Contains(there, n) || r.seldom() {
			return n
		}
	}
}

// shell answers declarations, which lie in depth messages, with names and kinds alone.
func (r *dice) shell(depth int) []parse.Decl {
	var list []parse.Decl
	var names []string
	for range r.Intn(6) {
		d := parse.Decl{Kind: 1 + r.Intn(3), Name: r.name(names...), At: r.at()}
		names = append(names, d.Name)
		if d.Kind == 3 && depth > 0 {
			d.Kind = 1
		}
		if d.Kind == 1 && depth < 3 {
			d.Inner = r.shell(depth + 1)
		}
		list = append(list, d)
	}
	return list
}

// fill puts fields, values and methods into those of list, with paths of whole.
func (r *dice) fill(list, whole []parse.Decl) {
	var paths, messages []string
	for _, s := range scope.All(whole) {
		if s.Kind == 1 || r.seldom() {
			messages = append(messages, s.Name)
		}
		if s.Kind < 3 || r.seldom() {
			paths = append(paths, s.Name)
		}
	}
	if len(messages) == 0 || r.seldom() {
		paths, messages = append(paths, "A", "B.C"), append(messages, "A")
	}
	for i := range list {
		d := &list[i]
		switch d.Kind {
		case 1:
			r.fields(d, paths)
			r.fill(d.Inner, whole)
		case 2:
			r.values(d)
		case 3:
			r.methods(d, messages)
		}
	}
}

func (r *dice) fields(d *parse.Decl, paths []string) {
	var names []string
	var numbers []int
	for _, inner := range d.Inner {
		names = append(names, inner.Name)
	}
	for range r.Intn(5) {
		f := parse.Field{Repeated: r.Intn(2) > 0, Type: r.pick(typeWords...), Name: r.name(names...), Number: r.number(numbers...), At: r.at()}
		if len(paths) > 0 && r.Intn(2) == 0 {
			f.Type = r.pick(paths...)
		}
		names, numbers = append(names, f.Name), append(numbers, f.Number)
		d.Fields = append(d.Fields, f)
	}
}

func (r *dice) values(d *parse.Decl) {
	var names []string
	var numbers []int
	for i := range 1 + r.Intn(4) {
		v := parse.Value{Name: r.name(names...), Number: r.number(numbers...), At: r.at()}
		if i == 0 && !r.seldom() {
			v.Number = 0
		}
		names, numbers = append(names, v.Name), append(numbers, v.Number)
		d.Values = append(d.Values, v)
	}
	if r.seldom() {
		d.Values = nil
	}
}

func (r *dice) methods(d *parse.Decl, messages []string) {
	var names []string
	for range r.Intn(4) {
		m := parse.Method{Name: r.name(names...), In: r.pick(messages...), Out: r.pick(messages...), At: r.at()}
		names = append(names, m.Name)
		d.Methods = append(d.Methods, m)
	}
}

// declarations answers formed ones.
func (r *dice) declarations() []parse.Decl {
	list := r.shell(0)
	r.fill(list, list)
	return list
}

// P8.1 and P8.3, for declarations of all sorts, held against the model.
func TestRandom(t *testing.T) {
	counts := map[api.Errno]int{}
	for i := range 10000 {
		r := &dice{Rand: rand.New(rand.NewSource(int64(i))), rare: []int{4, 20, 100, 1000}[i%4]}
		counts[checkModel(t, r.declarations())]++
	}
	for _, err := range []api.Errno{api.OK, api.ErrName, api.ErrNumber, api.ErrType, api.ErrCycle} {
		if counts[err] < 200 {
			t.Errorf("%d times %d are too few: %v", counts[err], err, counts)
		}
	}
}

// P8.1, for declarations about as many as there may be.
func TestRandomMany(t *testing.T) {
	counts := map[api.Errno]int{}
	for i := range 300 {
		r := &dice{Rand: rand.New(rand.NewSource(int64(i))), rare: 1000}
		var list []parse.Decl
		for k := range 120 + r.Intn(12) {
			d := parse.Decl{Kind: 1 + k%2, Name: fmt.Sprint("N", k), At: r.at()}
			if d.Kind == 2 {
				d.Values = []parse.Value{{Name: "z", At: r.at()}}
			}
			if n := r.Intn(12); d.Kind == 1 && n == 0 {
				for f := range 31 + r.Intn(3) {
					d.Fields = append(d.Fields, parse.Field{Type: "bool", Name: fmt.Sprint("x", f), Number: 1 + f, At: r.at()})
				}
			}
			if r.Intn(50) == 0 && k > 1 {
				d = parse.Decl{Kind: 3, Name: d.Name, At: d.At}
				for m := range 20 + r.Intn(25) {
					d.Methods = append(d.Methods, parse.Method{Name: fmt.Sprint("m", m), In: "N0", Out: "N0", At: r.at()})
				}
			}
			list = append(list, d)
		}
		counts[checkModel(t, list)]++
	}
	if counts[api.OK] < 20 || counts[api.ErrLong] < 100 {
		t.Errorf("too few of one sort: %v", counts)
	}
}

// disturb changes one thing in a schema.
func (r *dice) disturb(s *api.Schema) {
	numbers := []int{-1, 0, 1, 2, 3, 9, 10, 11, 19000, most, most + 1}
	names := []string{"", "A", "x", "B.A", "enum", "é", "a.b.c.d.e.f.g.h", "a.b.c.d.e.f.g.h.i"}
	number := func(n *int) { *n = numbers[r.Intn(len(numbers))] }
	name := func(n *string) { *n = r.pick(names...) }
	if len(s.Messages) > 0 {
		m := &s.Messages[r.Intn(len(s.Messages))]
		if r.Intn(8) == 0 {
			name(&m.Name)
			return
		}
		if len(m.Fields) > 0 && r.Intn(2) == 0 {
			f := &m.Fields[r.Intn(len(m.Fields))]
			[]func(){func() { number(&f.Number) }, func() { name(&f.Name) }, func() { number(&f.Kind) }, func() { number(&f.Type) }, func() { f.Repeated = !f.Repeated }, func() { f.Kind = 10; f.Type = r.Intn(len(s.Messages)) }}[r.Intn(6)]()
			return
		}
	}
	if len(s.Enums) > 0 && r.Intn(2) == 0 {
		e := &s.Enums[r.Intn(len(s.Enums))]
		if len(e.Values) == 0 {
			return
		}
		v := &e.Values[r.Intn(len(e.Values))]
		[]func(){func() { name(&e.Name) }, func() { e.Values = nil }, func() { number(&v.Number) }, func() { name(&v.Name) }}[r.Intn(4)]()
		return
	}
	if len(s.Methods) > 0 {
		m := &s.Methods[r.Intn(len(s.Methods))]
		[]func(){func() { number(&m.ID) }, func() { name(&m.Service) }, func() { name(&m.Name) }, func() { number(&m.In) }, func() { number(&m.Out) }}[r.Intn(5)]()
	}
}

// P8.2, for schemas of all sorts, held against the model.
func TestRandomFormed(t *testing.T) {
	var counts [2]int
	for i := range 8000 {
		r := &dice{Rand: rand.New(rand.NewSource(int64(i))), rare: 1000}
		s, _, err := Check(r.declarations())
		if err != api.OK {
			continue
		}
		for range 1 + r.Intn(2) {
			r.disturb(&s)
		}
		want := formedModel(s)
		if Formed(s) != want {
			t.Errorf("Formed(%+v) = %v", s, !want)
		}
		if want {
			counts[1]++
		} else {
			counts[0]++
		}
	}
	if min(counts[0], counts[1]) < 200 {
		t.Errorf("too few of one sort: %v", counts)
	}
}

// P8.1 to P8.3, for whatever texts a run of the fuzzer finds.
func FuzzCompile(f *testing.F) {
	f.Add(sample)
	f.Add("message A { B x = 1; } message B { A y = 1; }")
	f.Add("enum E { a = 0; a = 1; b = 1; } service S { rpc m(E) returns (E); }")
	for _, one := range faults {
		f.Add(strings.Replace(one.text, "^", "", 1))
	}
	f.Fuzz(func(t *testing.T, text string) {
		list, at, err := parse.File(text)
		if err != api.OK {
			s, place, e := Compile(text)
			if place != at || e != err || !reflect.DeepEqual(s, api.Schema{}) {
				t.Errorf("Compile = %v, %v, %d, want %v, %d", s, place, e, at, err)
			}
			return
		}
		checkModel(t, list)
		one, place, e := Check(list)
		other, samePlace, sameErr := Compile(text)
		if !reflect.DeepEqual(one, other) || place != samePlace || e != sameErr {
			t.Errorf("Check and Compile differ: %v and %v", one, other)
		}
	})
}

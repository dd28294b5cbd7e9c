package schema

import (
	"fmt"
	"math"
	"reflect"
	"slices"
	"strings"
	"testing"

	"courier/api"
)

// change is something to be done with a schema.
type change func(s *api.Schema)

// changed answers the sample's schema, changed.
func changed(c change) api.Schema {
	s := sampleSchema()
	c(&s)
	return s
}

// checkFormed asks whether the sample's schema is formed, after each of the changes.
func checkFormed(t *testing.T, want bool, changes ...change) {
	t.Helper()
	for i, c := range changes {
		s := changed(c)
		if Formed(s) != want {
			t.Errorf("change %d: Formed(%+v) = %v", i, s, !want)
		}
		if Formed(s) != formedModel(s) {
			t.Errorf("change %d: the model says otherwise of %+v", i, s)
		}
	}
}

// P8.2: schemas that Check tells, and what they may be beside that.
func TestFormed(t *testing.T) {
	for _, text := range []string{"", sample, "message A {}", "enum E { z = 0; }", "service S {}"} {
		right(t, text)
	}
	checkFormed(t, true,
		func(s *api.Schema) {},
		func(s *api.Schema) { *s = api.Schema{} },
		func(s *api.Schema) {
			*s = api.Schema{Messages: []api.MessageDef{}, Enums: []api.EnumDef{}, Methods: []api.MethodDef{}}
		},
		func(s *api.Schema) { s.Methods = nil },
		// Whole names needn't be of declarations that lie in others that are there.
		func(s *api.Schema) { s.Messages[0].Name = "X.Y.Z" },
		func(s *api.Schema) { s.Enums[0].Name = "a.b.c.d.e.f.g." + longest },
		func(s *api.Schema) { s.Messages[2].Name = "a.b.c.d.e.f.g.h" },
		func(s *api.Schema) { s.Messages[2].Name = "E.E" },
		func(s *api.Schema) { s.Messages[2].Name = "λ" },
		// Services' methods needn't stand together, nor have their names for themselves.
		func(s *api.Schema) { s.Methods[0].Service = "Rest"; s.Methods[0].Name = "n" },
		func(s *api.Schema) { s.Methods[1].Service = "A"; s.Methods[1].Name = "A" },
		func(s *api.Schema) { s.Methods[0].Service, s.Methods[0].Name = "m", "S" },
	)
}

// P8.2: how many there may be.
func TestFormedCounts(t *testing.T) {
	grow := func(messages, enums, fields, values, methods int) change {
		return func(s *api.Schema) {
			for i := len(s.Messages); i < messages; i++ {
				s.Messages = append(s.Messages, api.MessageDef{Name: fmt.Sprint("N", i)})
			}
			for i := len(s.Enums); i < enums; i++ {
				s.Enums = append(s.Enums, api.EnumDef{Name: fmt.Sprint("V", i), Values: []api.ValueDef{{Name: "z"}}})
			}
			last := &s.Messages[len(s.Messages)-1]
			for i := len(last.Fields); i < fields; i++ {
				last.Fields = append(last.Fields, api.FieldDef{Number: 100 + i, Name: fmt.Sprint("f", i), Kind: 1})
			}
			for i := len(s.Enums[0].Values); i < values; i++ {
				s.Enums[0].Values = append(s.Enums[0].Values, api.ValueDef{Name: fmt.Sprint("v", i), Number: 100 + i})
			}
			for i := len(s.Methods); i < methods; i++ {
				s.Methods = append(s.Methods, api.MethodDef{ID: i + 1, Service: "S", Name: fmt.Sprint("n", i)})
			}
		}
	}
	checkFormed(t, true,
		grow(api.MaxTypes, 0, 0, 0, 0), grow(0, api.MaxTypes, 0, 0, 0), grow(0, 0, api.MaxFields, 0, 0), grow(0, 0, 0, 0, api.MaxMethods), grow(0, 0, 0, 1000, 0),
		grow(api.MaxTypes, api.MaxTypes, api.MaxFields, 100, api.MaxMethods))
	checkFormed(t, false,
		grow(api.MaxTypes+1, 0, 0, 0, 0), grow(0, api.MaxTypes+1, 0, 0, 0), grow(0, 0, api.MaxFields+1, 0, 0), grow(0, 0, 0, 0, api.MaxMethods+1),
		grow(300, 0, 0, 0, 0), grow(api.MaxTypes, 0, api.MaxFields+1, 0, 0))
}

// wrongNames are texts that are no names, or reserved.
func wrongNames() []string {
	wrong := []string{"", " ", "1", "1a", "_", "_a", "a b", " a", "a ", "a\n", "a-b", "é", "aé", "\xff", "a\xff", "\u0390", "a\u03ca", "😀", "a\x00", "a.", ".a", "a..b", longest + "a", strings.Repeat("a", api.MaxName+1)}
	return slices.Concat(wrong, typeWords, otherReserved)
}

// P8.2: names of all sorts, at each place.
func TestFormedNames(t *testing.T) {
	paths := []change{}
	names := []change{}
	place := func(name string) []change {
		return []change{
			func(s *api.Schema) { s.Messages[0].Fields[1].Name = name },
			func(s *api.Schema) { s.Messages[4].Fields[0].Name = name },
			func(s *api.Schema) { s.Enums[0].Values[0].Name = name },
			func(s *api.Schema) { s.Enums[4].Values[0].Name = name },
			func(s *api.Schema) { s.Methods[0].Service = name },
			func(s *api.Schema) { s.Methods[2].Name = name },
		}
	}
	for _, name := range wrongNames() {
		paths = append(paths,
			func(s *api.Schema) { s.Messages[1].Name = name },
			func(s *api.Schema) { s.Enums[4].Name = name },
			func(s *api.Schema) { s.Messages[4].Name = "A." + name },
			func(s *api.Schema) { s.Enums[0].Name = name + ".A" })
		names = append(names, place(name)...)
	}
	paths = append(paths,
		func(s *api.Schema) { s.Messages[0].Name = "a.b.c.d.e.f.g.h.i" },
		func(s *api.Schema) { s.Enums[0].Name = "a.b.c.d.e.f.g.h.i" })
	checkFormed(t, false, paths...)
	checkFormed(t, false, names...)
	checkFormed(t, false, place("a.b")...)
	for _, name := range []string{"Q", "q_1", "λ", "messages", "Message", "int64_", longest} {
		checkFormed(t, true, place(name)...)
		checkFormed(t, true, func(s *api.Schema) { s.Messages[0].Name = name }, func(s *api.Schema) { s.Enums[0].Name = name })
	}
}

// P8.2: each name once.
func TestFormedNamesOnce(t *testing.T) {
	checkFormed(t, false,
		func(s *api.Schema) { s.Messages[1].Name = "A" },
		func(s *api.Schema) { s.Messages[4].Name = "B" },
		func(s *api.Schema) { s.Enums[4].Name = "E" },
		// A message and an enum.
		func(s *api.Schema) { s.Messages[2].Name = "E" },
		func(s *api.Schema) { s.Enums[0].Name = "A" },
		func(s *api.Schema) { s.Enums[4].Name = "A.D.F" },
		func(s *api.Schema) { s.Messages[0].Fields[2].Name = "x" },
		func(s *api.Schema) { s.Messages[1].Fields[0].Name = "f" },
		func(s *api.Schema) { s.Enums[0].Values[2].Name = "z" },
		func(s *api.Schema) { s.Enums[0].Values[1].Name = "a" },
		func(s *api.Schema) { s.Methods[1].Name = "m" },
		func(s *api.Schema) { s.Methods[2].Service = "S" },
	)
}

// P8.2: the numbers of fields rise, and are such as they may be.
func TestFormedFieldNumbers(t *testing.T) {
	number := func(n int) change { return func(s *api.Schema) { s.Messages[4].Fields[0].Number = n } }
	for _, n := range []int{1, 2, 18999, 20000, api.MaxField - 1, api.MaxField} {
		checkFormed(t, true, number(n))
	}
	for _, n := range []int{0, -1, 19000, 19001, 19500, 19998, 19999, api.MaxField + 1, 1 << 31, 1<<32 + 1, math.MaxInt, math.MinInt} {
		checkFormed(t, false, number(n))
	}
	checkFormed(t, false,
		func(s *api.Schema) { s.Messages[0].Fields[1].Number = 1 },
		func(s *api.Schema) { s.Messages[0].Fields[1].Number = 18999 },
		func(s *api.Schema) { s.Messages[0].Fields[0].Number = 8 },
		func(s *api.Schema) { s.Messages[1].Fields[3].Number = 3 },
		func(s *api.Schema) { slices.Reverse(s.Messages[3].Fields) },
		func(s *api.Schema) { s.Messages[0].Fields[2].Number = 19000 },
	)
}

// P8.2: Kinds, and the Types that they may have.
func TestFormedTypes(t *testing.T) {
	field := func(kind, number int, repeated bool) change {
		return func(s *api.Schema) {
			f := &s.Messages[4].Fields[0]
			f.Kind, f.Type, f.Repeated = kind, number, repeated
			// One enum more than there are messages, so that their numbers are told apart.
			s.Enums = append(s.Enums, api.EnumDef{Name: "More", Values: []api.ValueDef{{Name: "z"}}})
		}
	}
	for _, repeated := range []bool{false, true} {
		for kind := api.Int64; kind <= api.Fixed64; kind++ {
			checkFormed(t, true, field(kind, 0, repeated))
			checkFormed(t, false, field(kind, 1, repeated), field(kind, -1, repeated), field(kind, 4, repeated), field(kind, math.MaxInt, repeated))
		}
		checkFormed(t, true, field(api.Enum, 0, repeated), field(api.Enum, 1, repeated), field(api.Enum, 5, repeated))
		checkFormed(t, false, field(api.Enum, 6, repeated), field(api.Enum, -1, repeated), field(api.Enum, math.MaxInt, repeated), field(api.Enum, math.MinInt, repeated))
		checkFormed(t, true, field(api.Message, 0, repeated), field(api.Message, 2, repeated))
		checkFormed(t, repeated, field(api.Message, 3, repeated), field(api.Message, 4, repeated))
		checkFormed(t, false, field(api.Message, 5, repeated), field(api.Message, -1, repeated), field(api.Message, math.MaxInt, repeated), field(api.Message, math.MinInt, repeated))
		for _, kind := range []int{0, -1, 11, 12, 256 + 1, 1<<32 + 1, math.MaxInt, math.MinInt} {
			checkFormed(t, false, field(kind, 0, repeated), field(kind, 1, repeated))
		}
	}
	for kind := range 12 {
		for number := -1; number < 2; number++ {
			s := api.Schema{Messages: []api.MessageDef{{Name: "A", Fields: []api.FieldDef{{Number: 1, Name: "x", Kind: kind, Repeated: true, Type: number}}}}}
			if want := kind != 0 && kind != api.Enum && kind != 11 && number == 0; Formed(s) != want {
				t.Errorf("Formed(%+v) = %v", s, !want)
			}
		}
	}
}

// P8.2: the values of enums.
func TestFormedValues(t *testing.T) {
	value := func(i, n int) change { return func(s *api.Schema) { s.Enums[0].Values[i].Number = n } }
	checkFormed(t, true, value(1, 1), value(1, 19000), value(1, most), value(2, most-1))
	checkFormed(t, false,
		value(0, 1), value(0, -1), value(0, most), value(1, 0), value(2, 0), value(1, 5), value(2, most),
		value(1, -1), value(1, most+1), value(2, math.MinInt), value(2, math.MaxInt), value(2, 1<<32), value(2, 1<<32+1),
		func(s *api.Schema) { slices.Reverse(s.Enums[0].Values) },
		func(s *api.Schema) { s.Enums[0].Values = nil },
		func(s *api.Schema) { s.Enums[4].Values = []api.ValueDef{} },
		func(s *api.Schema) { s.Enums[3].Values[0].Number = 3 })
}

// P8.2: methods.
func TestFormedMethods(t *testing.T) {
	id := func(i, n int) change { return func(s *api.Schema) { s.Methods[i].ID = n } }
	in := func(i, n int) change { return func(s *api.Schema) { s.Methods[i].In = n } }
	out := func(i, n int) change { return func(s *api.Schema) { s.Methods[i].Out = n } }
	checkFormed(t, true, id(0, 1), id(2, 3), in(0, 0), in(2, 4), out(0, 4), out(2, 0))
	checkFormed(t, false,
		id(0, 0), id(0, 2), id(1, 1), id(1, 3), id(2, 2), id(2, 4), id(2, -3), id(2, math.MaxInt), id(0, 1<<32+1),
		in(0, 5), in(2, -1), in(1, math.MaxInt), in(1, math.MinInt), out(0, 5), out(2, -1), out(1, math.MaxInt), out(1, math.MinInt),
		func(s *api.Schema) { s.Methods = s.Methods[1:] },
		func(s *api.Schema) { slices.Reverse(s.Methods) },
		func(s *api.Schema) { s.Methods[0], s.Methods[1] = s.Methods[1], s.Methods[0] },
		func(s *api.Schema) { *s = api.Schema{Methods: []api.MethodDef{{ID: 1, Service: "S", Name: "m"}}} },
		func(s *api.Schema) { *s = api.Schema{Enums: s.Enums, Methods: s.Methods} })
}

// P8.2: no message needs itself.
func TestFormedRings(t *testing.T) {
	needs := func(from, to int, repeated bool) change {
		return func(s *api.Schema) {
			m := &s.Messages[from]
			m.Fields = append(m.Fields, api.FieldDef{Number: api.MaxField, Name: "more", Kind: api.Message, Repeated: repeated, Type: to})
			// The greatest number may be there already.
			if n := len(m.Fields); n > 1 && m.Fields[n-2].Number == api.MaxField {
				m.Fields[n-2].Number--
			}
		}
	}
	// In the sample A needs A.D, that A.D.F, and B needs B.A.
	ways := map[[2]int]bool{{0, 1}: true, {0, 2}: true, {1, 2}: true, {3, 4}: true}
	for from := range 5 {
		for to := range 5 {
			checkFormed(t, true, needs(from, to, true))
			checkFormed(t, from != to && !ways[[2]int{to, from}], needs(from, to, false))
		}
	}
	for _, count := range []int{1, 2, 3, 63, 64} {
		var s api.Schema
		for i := range count {
			s.Messages = append(s.Messages, api.MessageDef{Name: fmt.Sprint("A", i), Fields: []api.FieldDef{{Number: 1, Name: "x", Kind: api.Message, Type: (i + 1) % count}}})
		}
		if Formed(s) {
			t.Errorf("a ring of %d is formed", count)
		}
		s.Messages[count-1].Fields[0].Repeated = true
		if !Formed(s) {
			t.Errorf("%d in a row aren't formed", count)
		}
	}
}

// R1: schemas that are far too great.
func TestFormedMany(t *testing.T) {
	const many = 1 << 20
	s := sampleSchema()
	s.Messages = make([]api.MessageDef, many)
	if Formed(s) || !Same(s, s) {
		t.Error("so many messages")
	}
	s = sampleSchema()
	s.Messages[0].Fields = make([]api.FieldDef, many)
	if Formed(s) || !Same(s, s) {
		t.Error("so many fields")
	}
	s = sampleSchema()
	s.Messages[0].Name = strings.Repeat("A.", many)
	s.Methods[0].Name = strings.Repeat("A", many)
	if Formed(s) || !Same(s, s) {
		t.Error("such long names")
	}
	s = sampleSchema()
	values := make([]api.ValueDef, 100000)
	for i := range values {
		values[i] = api.ValueDef{Name: fmt.Sprint("v", i), Number: i}
	}
	s.Enums[0].Values = values
	if !Formed(s) {
		t.Error("many values may be")
	}
	values[len(values)-1].Number = 1
	if Formed(s) {
		t.Error("a number twice among many")
	}
}

// P8.2: Same, against schemas of which one thing is different.
func TestSame(t *testing.T) {
	differences := []change{
		func(s *api.Schema) { s.Messages[0].Name = "X" },
		func(s *api.Schema) { s.Messages[4].Name = "B.a" },
		func(s *api.Schema) { s.Messages[0].Fields[1].Name = "X" },
		func(s *api.Schema) { s.Messages[0].Fields[1].Number++ },
		func(s *api.Schema) { s.Messages[0].Fields[1].Kind++ },
		func(s *api.Schema) { s.Messages[0].Fields[1].Type++ },
		func(s *api.Schema) { s.Messages[0].Fields[1].Repeated = false },
		func(s *api.Schema) { s.Messages[4].Fields = nil },
		func(s *api.Schema) { s.Messages[2].Fields = make([]api.FieldDef, 1) },
		func(s *api.Schema) { slices.Reverse(s.Messages[1].Fields) },
		func(s *api.Schema) { slices.Reverse(s.Messages) },
		func(s *api.Schema) { s.Messages = s.Messages[:4] },
		func(s *api.Schema) { s.Messages = append(s.Messages, api.MessageDef{}) },
		func(s *api.Schema) { s.Messages = nil },
		func(s *api.Schema) { s.Enums[2].Name = "C" },
		func(s *api.Schema) { s.Enums[0].Values[2].Name = "A" },
		func(s *api.Schema) { s.Enums[0].Values[2].Number = 6 },
		func(s *api.Schema) { s.Enums[4].Values = nil },
		func(s *api.Schema) { s.Enums[4].Values = append(s.Enums[4].Values, api.ValueDef{}) },
		func(s *api.Schema) { s.Enums = s.Enums[:4] },
		func(s *api.Schema) { s.Enums = append(s.Enums, api.EnumDef{}) },
		func(s *api.Schema) { s.Enums[1], s.Enums[2] = s.Enums[2], s.Enums[1] },
		func(s *api.Schema) { s.Methods[0].ID = 0 },
		func(s *api.Schema) { s.Methods[1].Service = "T" },
		func(s *api.Schema) { s.Methods[1].Name = "B" },
		func(s *api.Schema) { s.Methods[2].In = 0 },
		func(s *api.Schema) { s.Methods[2].Out = math.MinInt },
		func(s *api.Schema) { s.Methods = s.Methods[:2] },
		func(s *api.Schema) { s.Methods = append(s.Methods, api.MethodDef{}) },
		func(s *api.Schema) { *s = api.Schema{} },
	}
	one := sampleSchema()
	if !Same(one, sampleSchema()) || !Same(one, one) {
		t.Error("the same isn't the same")
	}
	for i, d := range differences {
		other := changed(d)
		if Same(one, other) || Same(other, one) || !Same(other, changed(d)) {
			t.Errorf("difference %d isn't seen", i)
		}
		for k, e := range differences[:i] {
			if third := changed(e); Same(other, third) != reflect.DeepEqual(other, third) {
				t.Errorf("differences %d and %d", i, k)
			}
		}
	}
	// R4: a list of no elements may be nil or empty.
	none := api.Schema{Messages: []api.MessageDef{}, Enums: []api.EnumDef{}, Methods: make([]api.MethodDef, 0, 4)}
	if !Same(none, api.Schema{}) || !Same(api.Schema{}, none) {
		t.Error("nil and empty")
	}
	empty := func(s *api.Schema) { s.Messages[2].Fields = []api.FieldDef{} }
	if !Same(one, changed(empty)) || !Same(changed(empty), one) {
		t.Error("nil and empty, within")
	}
}

// R2 and R3: Formed and Same leave what they are given as it is.
func TestFormedMemory(t *testing.T) {
	s := sampleSchema()
	s.Messages = append(slices.Clip(s.Messages), api.MessageDef{Name: "spare"})[:len(s.Messages)]
	s.Messages[0].Fields = append(slices.Clip(s.Messages[0].Fields), api.FieldDef{Name: "spare"})[:3]
	other := sampleSchema()
	for range 2 {
		if !Formed(s) || !Same(s, other) || !Same(other, s) {
			t.Error("not the same answer")
		}
	}
	if !reflect.DeepEqual(s, other) || s.Messages[:6][5].Name != "spare" || s.Messages[0].Fields[:4][3].Name != "spare" {
		t.Error("the argument was changed")
	}
}

package stub

import (
	"fmt"
	"reflect"
	"slices"
	"strings"
	"testing"
	"unsafe"

	"courier/api"
	"courier/schema"
)

// sample has services with and without methods, and messages that lie in others.
const sample = `
service none {}
message A { message B { message c_d {} } enum E { z = 0; } }
service shop { rpc get_item(A.B) returns (C); rpc put(C) returns (C); rpc λ_x(A.B.c_d) returns (A); }
message C { A.E e = 1; }
service nothing {}
service T { rpc put(A) returns (A.B.c_d); }
message Unused {}
`

const sampleText = `package stubs

type ShopClient struct{ Caller }

func (c ShopClient) GetItem(in A_B) (C, Status) { return call[C](c.Caller, 1, in) }

func (c ShopClient) Put(in C) (C, Status) { return call[C](c.Caller, 2, in) }

func (c ShopClient) λX(in A_B_c_d) (A, Status) { return call[A](c.Caller, 3, in) }

type TClient struct{ Caller }

func (c TClient) Put(in A) (A_B_c_d, Status) { return call[A_B_c_d](c.Caller, 4, in) }

func Dispatch(h Handlers, id int, in any) (any, Status) {
	switch id {
	case 1:
		return h.Shop_GetItem(in.(A_B))
	case 2:
		return h.Shop_Put(in.(C))
	case 3:
		return h.Shop_λX(in.(A_B_c_d))
	case 4:
		return h.T_Put(in.(A))
	}
	return nil, Unimplemented
}
`

func sampleRows() []Row {
	return []Row{
		{1, "Shop", "GetItem", "A_B", "C"},
		{2, "Shop", "Put", "C", "C"},
		{3, "Shop", "λX", "A_B_c_d", "A"},
		{4, "T", "Put", "A", "A_B_c_d"},
	}
}

// noneText is the text of no methods.
const noneText = `package stubs

func Dispatch(h Handlers, id int, in any) (any, Status) {
	switch id {
	}
	return nil, Unimplemented
}
`

func compiled(text string) api.Schema {
	s, at, err := schema.Compile(text)
	if err != api.OK {
		panic(fmt.Sprint(text, at, err))
	}
	return s
}

// schemaOf answers a schema with the messages A and A.B and these methods, each as
// service.method.
func schemaOf(methods ...string) api.Schema {
	s := api.Schema{Messages: []api.MessageDef{{Name: "A"}, {Name: "A.B"}}}
	for i, m := range methods {
		service, name, _ := strings.Cut(m, ".")
		s.Methods = append(s.Methods, api.MethodDef{ID: i + 1, Service: service, Name: name, In: i % 2, Out: 1})
	}
	return s
}

// check asks all that the package promises of a schema that has stubs.
func check(t *testing.T, s api.Schema, rows []Row, text string) {
	t.Helper()
	if got, err := Emit(s); got != text || err != api.OK {
		t.Errorf("Emit(%+v) = %s, %d, want %s", s, got, err, text)
	}
	if got := Rows(s); !slices.Equal(got, rows) {
		t.Errorf("Rows(%+v) = %v, want %v", s, got, rows)
	}
	if got, err := Read(text); err != api.OK || !slices.Equal(got, rows) {
		t.Errorf("Read(%s) = %v, %d, want %v", text, got, err, rows)
	}
}

// checkError asks that Emit answers this error of a schema, and Rows these rows.
func checkError(t *testing.T, s api.Schema, rows []Row, want api.Errno) {
	t.Helper()
	if text, err := Emit(s); text != "" || err != want {
		t.Errorf("Emit(%+v) = %s, %d, want the error %d", s, text, err, want)
	}
	if got := Rows(s); !slices.Equal(got, rows) {
		t.Errorf("Rows(%+v) = %v, want %v", s, got, rows)
	}
}

// right asks that these rows are read of their text.
func right(t *testing.T, rows ...Row) {
	t.Helper()
	for i := range rows {
		rows[i].ID = i + 1
	}
	text := modelText(wordsOf(rows))
	if got, err := Read(text); err != api.OK || !slices.Equal(got, rows) {
		t.Errorf("Read(%.1000q) = %v, %d, want %v", text, got, err, rows)
	}
	checkText(t, text)
}

// wrong asks that these texts aren't made of rows.
func wrong(t *testing.T, texts ...string) {
	t.Helper()
	for _, text := range texts {
		if checkText(t, text) {
			t.Errorf("the model takes %.1000q", text)
		}
	}
}

// replaced answers the sample's text with the first, the second .. of what is old
// replaced, each for itself; it must be there.
func replaced(t *testing.T, old, by string) []string {
	t.Helper()
	parts := strings.Split(sampleText, old)
	if len(parts) < 2 {
		t.Fatalf("there is no %q", old)
	}
	var texts []string
	for i := 1; i < len(parts); i++ {
		texts = append(texts, strings.Join(parts[:i], old)+by+strings.Join(parts[i:], old))
	}
	return texts
}

// P13.1 and P13.3: the chapter's example.
func TestExample(t *testing.T) {
	s := compiled("message A { message B {} } message C {} service shop { rpc get_item(A.B) returns (C); }")
	check(t, s, []Row{{1, "Shop", "GetItem", "A_B", "C"}}, `package stubs

type ShopClient struct{ Caller }

func (c ShopClient) GetItem(in A_B) (C, Status) { return call[C](c.Caller, 1, in) }

func Dispatch(h Handlers, id int, in any) (any, Status) {
	switch id {
	case 1:
		return h.Shop_GetItem(in.(A_B))
	}
	return nil, Unimplemented
}
`)
}

// P13.1 to P13.3: several services, and such as have no methods.
func TestServices(t *testing.T) {
	check(t, compiled(sample), sampleRows(), sampleText)
	for _, text := range []string{"", "message A {}", "enum E { z = 0; }", "service S {}", "service S {} message A { message B {} } service s {} service s_ {}"} {
		check(t, compiled(text), nil, noneText)
	}
	for _, none := range []api.Schema{{}, {Messages: []api.MessageDef{}, Enums: []api.EnumDef{}, Methods: []api.MethodDef{}}} {
		check(t, none, nil, noneText)
	}
}

// P13.1 to P13.3: in a schema in which a service's methods stand apart, it comes again.
func TestServiceAgain(t *testing.T) {
	check(t, schemaOf("s.a", "t.b", "s.c", "s.d", "t.a"), []Row{{1, "S", "A", "A", "A_B"}, {2, "T", "B", "A_B", "A_B"}, {3, "S", "C", "A", "A_B"}, {4, "S", "D", "A_B", "A_B"}, {5, "T", "A", "A", "A_B"}}, `package stubs

type SClient struct{ Caller }

func (c SClient) A(in A) (A_B, Status) { return call[A_B](c.Caller, 1, in) }

type TClient struct{ Caller }

func (c TClient) B(in A_B) (A_B, Status) { return call[A_B](c.Caller, 2, in) }

type SClient struct{ Caller }

func (c SClient) C(in A) (A_B, Status) { return call[A_B](c.Caller, 3, in) }

func (c SClient) D(in A_B) (A_B, Status) { return call[A_B](c.Caller, 4, in) }

type TClient struct{ Caller }

func (c TClient) A(in A) (A_B, Status) { return call[A_B](c.Caller, 5, in) }

func Dispatch(h Handlers, id int, in any) (any, Status) {
	switch id {
	case 1:
		return h.S_A(in.(A))
	case 2:
		return h.T_B(in.(A_B))
	case 3:
		return h.S_C(in.(A))
	case 4:
		return h.S_D(in.(A_B))
	case 5:
		return h.T_A(in.(A))
	}
	return nil, Unimplemented
}
`)
}

// P13.1: the stub names of names of all sorts.
func TestStubNames(t *testing.T) {
	longest := strings.Repeat("ω", api.MaxName)
	for name, stub := range map[string]string{
		"a": "A", "A": "A", "z_": "Z", "a__b": "AB", "get_item": "GetItem", "GetItem": "GetItem", "a1_2b_c": "A12bC", "x_1": "X1",
		"λ": "λ", "λ_a": "λA", "a_λ": "Aλ", "Ω1_ω": "Ω1ω", "αa_βb": "αaβb", "func": "Func", "client": "Client", "stubs": "Stubs",
		longest: longest, strings.Repeat("a", api.MaxName): "A" + strings.Repeat("a", api.MaxName-1), "a" + strings.Repeat("_", api.MaxName-1): "A",
	} {
		rows := []Row{{1, stub, "M", "A", "A_B"}, {2, "Rest", stub, "A_B", "A_B"}, {3, stub, stub, "A", "A_B"}}
		check(t, schemaOf(name+".m", "rest."+name, name+"."+name), rows, modelText(wordsOf(rows)))
	}
	deepest := strings.Repeat(longest+".", api.MaxNest-1) + longest
	for name, stub := range map[string]string{
		"a": "a", "a_b": "a_b", "a.b": "a_b", "A.b.C.d": "A_b_C_d", "a_": "a_", "a_.b_": "a__b_", "λ.Ω": "λ_Ω", "func": "func", "a.b.c.d.e.f.g.h": "a_b_c_d_e_f_g_h",
		deepest: strings.ReplaceAll(deepest, ".", "_"),
	} {
		s := schemaOf("s.m", "s.n")
		s.Messages[0].Name, s.Messages[1].Name = name, "Z.z"
		s.Methods[0].Out, s.Methods[1].Out = 1, 0
		rows := []Row{{1, "S", "M", stub, "Z_z"}, {2, "S", "N", "Z_z", stub}}
		check(t, s, rows, modelText(wordsOf(rows)))
	}
}

// P13.1: ErrArg, and no rows, of what isn't formed, be names alike or not.
func TestNotFormed(t *testing.T) {
	changes := []func(s *api.Schema){
		func(s *api.Schema) { s.Messages[0].Name = "" },
		func(s *api.Schema) { s.Messages[3].Name = "A" },
		func(s *api.Schema) { s.Messages[4].Name = "message" },
		func(s *api.Schema) { s.Messages[4].Name = "a..b" },
		func(s *api.Schema) { s.Messages[4].Name = "a.b.c.d.e.f.g.h.i" },
		func(s *api.Schema) { s.Messages[0].Fields = []api.FieldDef{{}} },
		func(s *api.Schema) {
			s.Messages[0].Fields = []api.FieldDef{{Number: 1, Name: "a", Kind: api.Message}}
		},
		func(s *api.Schema) { s.Messages = nil },
		func(s *api.Schema) { s.Enums = nil },
		func(s *api.Schema) { s.Enums[0].Values = nil },
		func(s *api.Schema) { s.Methods[0].ID = 0 },
		func(s *api.Schema) { s.Methods = s.Methods[1:] },
		func(s *api.Schema) { s.Methods[3].ID = 5 },
		func(s *api.Schema) { s.Methods[1].Service = "" },
		func(s *api.Schema) { s.Methods[1].Service = "rpc" },
		func(s *api.Schema) { s.Methods[1].Service = "a.b" },
		func(s *api.Schema) { s.Methods[1].Service = "\xff" },
		func(s *api.Schema) { s.Methods[1].Name = "" },
		func(s *api.Schema) { s.Methods[1].Name = "_a" },
		func(s *api.Schema) { s.Methods[1].Name = "string" },
		func(s *api.Schema) { s.Methods[1].Name = strings.Repeat("a", api.MaxName+1) },
		func(s *api.Schema) { s.Methods[1].Name = s.Methods[0].Name },
		func(s *api.Schema) { s.Methods[1].In = -1 },
		func(s *api.Schema) { s.Methods[1].In = len(s.Messages) },
		func(s *api.Schema) { s.Methods[1].Out = -1 << 63 },
		func(s *api.Schema) { s.Methods[1].Out = 1<<63 - 1 },
	}
	clash := func(s *api.Schema) {
		s.Messages = append(s.Messages, api.MessageDef{Name: "A_B"})
		s.Methods = append(s.Methods, api.MethodDef{ID: 5, Service: "t", Name: "put"})
	}
	for i, change := range changes {
		one, both := compiled(sample), compiled(sample)
		change(&one)
		clash(&both)
		change(&both)
		if schema.Formed(one) || schema.Formed(both) {
			t.Errorf("change %d is none", i)
		}
		checkError(t, one, nil, api.ErrArg)
		checkError(t, both, nil, api.ErrArg)
	}
}

// P13.1: as many methods and messages as there may be, and one more.
func TestMost(t *testing.T) {
	s := schemaOf()
	for i := range api.MaxMethods {
		s.Methods = append(s.Methods, api.MethodDef{ID: i + 1, Service: fmt.Sprint("s", i/10), Name: fmt.Sprint("m", i), In: i % 2, Out: i / 2 % 2})
	}
	for i := len(s.Messages); i < api.MaxTypes; i++ {
		s.Messages = append(s.Messages, api.MessageDef{Name: fmt.Sprint("M", i)})
	}
	check(t, s, modelRows(s), modelText(wordsOf(modelRows(s))))
	last := s.Messages[api.MaxTypes-1].Name
	s.Messages[api.MaxTypes-1].Name = "A_B"
	checkError(t, s, modelRows(s), api.ErrName)
	s.Messages[api.MaxTypes-1].Name = last
	s.Methods[api.MaxMethods-1].Name = "M60"
	s.Methods[api.MaxMethods-1].Service = "S6"
	checkError(t, s, modelRows(s), api.ErrName)
	s.Methods = append(s.Methods, api.MethodDef{ID: api.MaxMethods + 1, Service: "x", Name: "x"})
	checkError(t, s, nil, api.ErrArg)
}

// P13.1: services that follow one another, and methods, of one stub name: ErrName.
func TestOneNameOfMethods(t *testing.T) {
	for _, methods := range [][]string{
		// Services that follow one another.
		{"a.m", "A.n"}, {"a.m", "a_.n"}, {"a_b.m", "aB.n"}, {"a_b.m", "AB.n"}, {"λ.m", "λ_.n"}, {"T.m", "T.n", "t.o"}, {"s.a", "t.m", "T.n", "s.b"}, {"a.m", "x.m", "A.n", "a.o"},
		// Methods of one service, one behind the other, and not so.
		{"S.get_a", "S.getA"}, {"S.a", "S.A"}, {"S.a", "S.b", "S.a_"}, {"S.λ_", "S.λ"}, {"S.a", "T.b", "S.a_"}, {"T.x", "S.a1", "S.a_1"},
		// Methods of services of one stub name, that don't follow one another.
		{"s.m", "T.m", "S.m"}, {"s.m", "T.m", "S.M"}, {"a_b.get_it", "x.y", "x.z", "AB.GetIt"},
		// All at once.
		{"s.m", "S.m"}, {"s.m", "S.M"},
	} {
		s := schemaOf(methods...)
		checkError(t, s, modelRows(s), api.ErrName)
		if !modelClash(s) {
			t.Errorf("the model takes %v", methods)
		}
	}
	for _, text := range []string{
		"message A {} service a { rpc m(A) returns (A); } service A_ { rpc n(A) returns (A); }",
		"message A {} service a { rpc m(A) returns (A); } service none {} service A_ { rpc n(A) returns (A); }",
		"message A {} service S { rpc get_a(A) returns (A); rpc getA(A) returns (A); }",
		"message A {} service s { rpc m(A) returns (A); } service T { rpc m(A) returns (A); } service S { rpc m(A) returns (A); }",
	} {
		s := compiled(text)
		checkError(t, s, modelRows(s), api.ErrName)
	}
}

// P13.1: names that are nearly alike, or alike where they may be.
func TestUnlikeNames(t *testing.T) {
	for _, methods := range [][]string{
		// Services of one stub name that don't follow one another.
		{"s.m", "T.m", "S.n"}, {"s.m", "T.m", "S_.n", "t_x.m", "s_.o"},
		// Methods of one stub name, of services of unlike ones.
		{"s.m", "T.m"}, {"s.m", "T.M", "U.m_"}, {"s.m", "s1.m"},
		// What _ tells apart is lost, but not what great letters within do.
		{"s.ab", "s.a_b"}, {"s.ab", "s.aB"}, {"ab.m", "a_b.m"}, {"s.λa", "s.λ_a"}, {"s.λ", "s.Λ"}, {"a1b.m", "a1_b.m"},
		// A service and a method that make one text together with others.
		{"a.b_c", "a_b.c"}, {"ab.c", "a.bc"}, {"client.m", "a.client", "m.client"}, {"a.a", "aa.a"}, {"a.aa", "aa.a"},
		// A method's stub name like a message's, and as a service's client's.
		{"a.a_b", "x.a_client", "a_client.x"},
	} {
		s := schemaOf(methods...)
		check(t, s, modelRows(s), modelText(wordsOf(modelRows(s))))
	}
}

// P13.1: messages of one stub name, be they a method's or not.
func TestOneNameOfMessages(t *testing.T) {
	for _, text := range []string{
		"message A { message B {} } message A_B {}", "message A_B {} message A { message B {} }",
		"message A { message B { message C {} } message B_C {} }", "message A { message B_C {} } message A_B { message C {} }", "message A_B_C {} message A { message B { message C {} } }",
		"message A_ { message B {} } message A__B {}",
		"message λ { message ω {} } message λ_ω {}",
		"message X {} service s { rpc m(X) returns (X); } message A { message B {} } message A_B {}",
		"service s { rpc m(A.B) returns (A_B); } message A { message B {} } message A_B {}",
	} {
		s := compiled(text)
		checkError(t, s, modelRows(s), api.ErrName)
	}
	for _, text := range []string{
		"message A { message B {} } message AB {} message a_B {} message a { message B_ {} }",
		// Enums have no stub names.
		"message A { enum B { z = 0; } } message A_B {}", "message A { message B {} } enum A_B { z = 0; }", "message A { enum B { z = 0; } } enum A_B { z = 0; }",
		// Nor is a service's one of a message.
		"message s {} message S {} service s_ {} message sClient {} message SClient {}",
	} {
		s := compiled(text)
		check(t, s, nil, noneText)
	}
}

// P13.2: what is cut off, and what stands ahead of a text or behind it.
func TestCutOff(t *testing.T) {
	for _, text := range []string{sampleText, noneText} {
		for i := range text {
			wrong(t, text[:i])
			if i > 0 {
				wrong(t, text[i:])
			}
		}
		for _, more := range []string{"\n", " ", "\t", "\x00", "a", "}", "}\n", "//\n", "\xff", "\ufeff", "package stubs\n", "func (c ", text} {
			wrong(t, text+more, more+text)
		}
	}
	wrong(t, "", "\n", " ", "package stubs", "package stubs\n", "package stubs\n\n")
	wrong(t, strings.ReplaceAll(sampleText, "\n", "\r\n"), strings.ReplaceAll(sampleText, "\t", "    "), strings.ReplaceAll(sampleText, "\n\n", "\n"), strings.ToLower(sampleText))
}

// P13.2: each byte is asked: most stand for themselves, and each name and number
// comes at two places at least.
func TestByteTurned(t *testing.T) {
	for _, text := range []string{sampleText, noneText} {
		for i := range len(text) {
			for b := range 256 {
				turned := text[:i] + string([]byte{byte(b)}) + text[i+1:]
				rows, err := Read(turned)
				if turned != text && (err != api.ErrForm || len(rows) > 0) {
					t.Errorf("Read(%q) = %v, %d", turned, rows, err)
				}
			}
			wrong(t, text[:i]+text[i+1:])
			for _, more := range []string{text[i : i+1], " ", "\n", "\t", "0", "1", "_", "A", "\x80"} {
				wrong(t, text[:i]+more+text[i:])
			}
		}
	}
}

// P13.2: lines in another order, left out, or twice.
func TestLines(t *testing.T) {
	for _, text := range []string{sampleText, noneText} {
		lines := strings.SplitAfter(text, "\n")
		lines = lines[:len(lines)-1]
		for i, line := range lines {
			wrong(t, strings.Join(slices.Delete(slices.Clone(lines), i, i+1), ""))
			for j, other := range lines {
				wrong(t, strings.Join(slices.Insert(slices.Clone(lines), j, line), ""))
				swapped := slices.Clone(lines)
				swapped[i], swapped[j] = other, line
				if line != other {
					wrong(t, strings.Join(swapped, ""))
				}
				moved := slices.Insert(slices.Delete(slices.Clone(lines), i, i+1), j, line)
				if !slices.Equal(moved, lines) {
					wrong(t, strings.Join(moved, ""))
				}
			}
		}
	}
}

// P13.2: a service without rows, twice though its rows stand together, or once
// though they don't.
func TestWrongClients(t *testing.T) {
	client := "type TClient struct{ Caller }\n\n"
	wrong(t, replaced(t, client, "")...)
	wrong(t, replaced(t, client, client+client)...)
	wrong(t, replaced(t, client, "type NoneClient struct{ Caller }\n\n"+client)...)
	wrong(t, replaced(t, client, "type ShopClient struct{ Caller }\n\n"+client)...)
	wrong(t, replaced(t, client, "type tClient struct{ Caller }\n\n")...)
	wrong(t, replaced(t, "func (c ShopClient) Put", "type ShopClient struct{ Caller }\n\nfunc (c ShopClient) Put")...)
	wrong(t, replaced(t, "func (c ShopClient) Put", "func (c TClient) Put")...)
	wrong(t, replaced(t, "func (c TClient) Put", "func (c ShopClient) Put")...)
	wrong(t, replaced(t, "func Dispatch", client+"func Dispatch")...)
	wrong(t, strings.Replace(noneText, "func", client+"func", 1))
	again := Row{Service: "S", Method: "M", In: "A", Out: "B"}
	other := Row{Service: "T", Method: "M", In: "A", Out: "B"}
	right(t, again, other, again)
	right(t, again, again, other, other, again)
	rows := modelText(wordsOf([]Row{{1, "S", "M", "A", "B"}, {2, "T", "M", "A", "B"}, {3, "S", "M", "A", "B"}}))
	first, behind, _ := strings.Cut(rows, "type SClient struct{ Caller }\n\nfunc (c SClient) M(in A) (B, Status) { return call[B](c.Caller, 3")
	wrong(t, first+"func (c SClient) M(in A) (B, Status) { return call[B](c.Caller, 3"+behind)
}

// P13.2: IDs that don't go 1, 2, 3 .., at one place or at both, and such as are
// written otherwise.
func TestWrongIDs(t *testing.T) {
	row := words{"", "S", "M", "A", "B"}
	with := func(ids ...string) string {
		list := []words{}
		for _, id := range ids {
			row.id = id
			list = append(list, row)
		}
		return modelText(list)
	}
	for _, id := range []string{"", "0", "2", "-1", "+1", "01", "001", "1 ", " 1", "1.0", "0x1", "1_", "_1", "1e0", "one", "１", "١", "n", "0b1", "18446744073709551617", "4294967297", strings.Repeat("0", 5000) + "1", strings.Repeat("9", 5000)} {
		wrong(t, with(id), with("1", "2", id), with(id, "2"))
		wrong(t, strings.Replace(with("1"), "case 1:", "case "+id+":", 1), strings.Replace(with("1"), ", 1, in)", ", "+id+", in)", 1))
	}
	wrong(t, with("0", "1"), with("2", "3"), with("1", "1"), with("2", "1"), with("1", "3"), with("1", "3", "2"), with("1", "2", "4"), with("3", "2", "1"), with("1", "02"), with("1", "+2"), with("2", "2"))
	var ids, ahead []string
	for i := range 123 {
		ids = append(ids, fmt.Sprint(i+1))
		ahead = append(ahead, fmt.Sprintf("%03d", i+1))
	}
	if !checkText(t, with(ids...)) || !checkText(t, with()) || !checkText(t, with("1")) {
		t.Error("these IDs are right")
	}
	wrong(t, with(ahead...), with(ids[1:]...), with(append(ids, "123")...))
}

// P13.2: the stub names of services and methods are names without _.
func TestNamesRead(t *testing.T) {
	longest := strings.Repeat("ω", api.MaxName)
	for _, name := range []string{"A", "a", "z9", "λ", "Α", "ω", "\u0391\u03c9", "\u03a2", "aB1", "Client", "ClientClient", "TypeClient", "c", "in", "func", "message", "string", "Status", "Caller", longest, strings.Repeat("z", api.MaxName)} {
		right(t, Row{Service: name, Method: "M", In: "A", Out: "B"})
		right(t, Row{Service: "S", Method: name, In: "A", Out: "B"}, Row{Service: name, Method: name, In: "A", Out: "B"})
	}
	for _, name := range []string{"", "_", "A_", "_A", "a_b", "λ_", "A__B", "1", "1A", "é", "Aé", "\u0390", "\u03ca", "A b", " A", "A ", "A\n", "\nA", "A\t", "A.B", "A-B", "A(", "A)", "A[B]", "*A", "\xff", "A\xff", "\xce", "😀", "A\x00", "\ufffd", longest + "a", longest + "_", strings.Repeat("z", api.MaxName+1), strings.Repeat("z", 100000)} {
		wrong(t, modelText([]words{{"1", name, "M", "A", "B"}}), modelText([]words{{"1", "S", name, "A", "B"}}), modelText([]words{{"1", name, name, "A", "B"}}))
		wrong(t, modelText([]words{{"1", "S", "M", "A", "B"}, {"2", name, "M", "A", "B"}}), modelText([]words{{"1", "S", name, "A", "B"}, {"2", "S", "M", "A", "B"}}))
	}
}

// P13.2: the stub names of messages are letters, digits and _ behind a letter.
func TestMessageNamesRead(t *testing.T) {
	for _, name := range []string{"A", "a", "A_", "A__", "a_1", "A1", "A_B", "λ_ω9", "\u03a2", "func", "message", "Status", "in", strings.Repeat("z", api.MaxName+1), strings.Repeat("z", 399), strings.Repeat("z", 400), strings.Repeat("ω", 400), "a" + strings.Repeat("_", 399), "Ω" + strings.Repeat("9", 399)} {
		right(t, Row{Service: "S", Method: "M", In: name, Out: "B"})
		right(t, Row{Service: "S", Method: "M", In: "A", Out: name}, Row{Service: "S", Method: "M", In: name, Out: name})
	}
	for _, name := range []string{"", "_", "_A", "__", "1", "1A", "9_", "é", "Aé", "\u0390", "A\u03ca", "A.B", "A b", " A", "A ", "A\n", "A,", "A)", "A]", "*A", "[]A", "A-B", "\xff", "A\xff", "A\xce", "\x80", "😀", "\ufffd", "A\x00", strings.Repeat("z", 401), strings.Repeat("ω", 401), strings.Repeat("ω", 400) + "_", "a" + strings.Repeat("_", 400), strings.Repeat("z", 100000)} {
		wrong(t, modelText([]words{{"1", "S", "M", name, "B"}}), modelText([]words{{"1", "S", "M", "A", name}}), modelText([]words{{"1", "S", "M", name, name}}))
		wrong(t, modelText([]words{{"1", "S", "M", "A", "B"}, {"2", "S", "M", "A", name}}), modelText([]words{{"1", "S", "M", name, "B"}, {"2", "S", "M", "A", "B"}}))
	}
}

// P13.2: each rune, ahead in each name and behind in it.
func TestRunesRead(t *testing.T) {
	for r := rune(0); r < 0x500; r++ {
		isLetter := 'a' <= r && r <= 'z' || 'A' <= r && r <= 'Z' || 0x391 <= r && r <= 0x3c9
		isDigit := '0' <= r && r <= '9'
		for name, may := range map[string][2]bool{
			string(r):             {isLetter, isLetter},
			string(r) + "a":       {isLetter, isLetter},
			"a" + string(r):       {isLetter || isDigit, isLetter || isDigit || r == '_'},
			"a" + string(r) + "a": {isLetter || isDigit, isLetter || isDigit || r == '_'},
		} {
			for place, row := range []words{{"1", name, "M", "A", "B"}, {"1", "S", name, "A", "B"}, {"1", "S", "M", name, "B"}, {"1", "S", "M", "A", name}} {
				if got := checkText(t, modelText([]words{row})); got != may[place/2] {
					t.Errorf("%q at the place %d: %v", name, place, got)
				}
			}
		}
	}
}

// P13.2: what stands at several places is the same at all of them.
func TestUnlikePlaces(t *testing.T) {
	for _, old := range []string{"(in A_B)", "(in C)", "(in A_B_c_d)", "(in A)", "in.(A_B)", "in.(C)", "in.(A_B_c_d)", "in.(A)"} {
		wrong(t, replaced(t, old, old[:4]+"Other)")...)
	}
	for _, old := range []string{"(C, Status)", "(A, Status)", "(A_B_c_d, Status)"} {
		wrong(t, replaced(t, old, "(Other, Status)")...)
	}
	for _, old := range []string{"call[C]", "call[A]", "call[A_B_c_d]"} {
		wrong(t, replaced(t, old, "call[Other]")...)
	}
	for _, old := range []string{"h.Shop_", "h.T_", "type ShopClient", "type TClient", "(c ShopClient)", "(c TClient)"} {
		wrong(t, replaced(t, old, strings.NewReplacer("Shop", "Other", "T", "Other").Replace(old))...)
	}
	for _, old := range []string{"_GetItem(", "_Put(", "_λX(", " GetItem(", " Put(", " λX("} {
		wrong(t, replaced(t, old, old[:1]+"Other(")...)
	}
	both := strings.NewReplacer("A_B)", "Q_)", "GetItem", "q", "Shop", "λ").Replace(sampleText)
	if !checkText(t, both) {
		t.Error("names that are others at all places are right")
	}
}

// P13.2: rows needn't be such as a schema has: more than it may have, and alike.
func TestRowsOfNoSchema(t *testing.T) {
	right(t)
	same := Row{Service: "a", Method: "a", In: "a", Out: "a"}
	right(t, same)
	right(t, same, same)
	right(t, slices.Repeat([]Row{same, {Service: "A", Method: "a", In: "a", Out: "A"}}, api.MaxMethods)...)
}

// overlap answers whether two texts lie in one memory.
func overlap(a, b string) bool {
	x, y := uintptr(unsafe.Pointer(unsafe.StringData(a))), uintptr(unsafe.Pointer(unsafe.StringData(b)))
	return x < y+uintptr(len(b)) && y < x+uintptr(len(a))
}

// checkApart asks that no two texts of rows, nor one of them and one of those,
// share memory.
func checkApart(t *testing.T, rows []Row, those ...string) {
	t.Helper()
	all := those
	for _, r := range rows {
		all = append(all, r.Service, r.Method, r.In, r.Out)
	}
	for i, one := range all {
		for _, other := range all[:i] {
			if overlap(one, other) {
				t.Errorf("%q shares memory with %q", one, other)
			}
		}
	}
}

// R2 and R3: answers hang on the arguments alone, which are left as they are, spare
// room too, and are new memory.
func TestMemory(t *testing.T) {
	made := func() api.Schema {
		s := schemaOf("Same.Again", "Same.Twice", "λ.λ")
		s.Messages = append(make([]api.MessageDef, 0, 9), s.Messages...)
		s.Methods = append(make([]api.MethodDef, 0, 9), s.Methods...)
		for i := range s.Methods {
			s.Methods[i].Service, s.Methods[i].Name = strings.Clone(s.Methods[i].Service), strings.Clone(s.Methods[i].Name)
		}
		s.Messages[0].Name = strings.Repeat("Long", 5)
		return s
	}
	s := made()
	text, err := Emit(s)
	rows, again := Rows(s), Rows(s)
	read, refused := Read(text)
	if err != api.OK || refused != api.OK || !slices.Equal(rows, modelRows(s)) || !slices.Equal(rows, read) {
		t.Fatal(text, rows, read, err, refused)
	}
	if !reflect.DeepEqual(s, made()) || !reflect.DeepEqual(s.Methods[:9], made().Methods[:9]) || !reflect.DeepEqual(s.Messages[:9], made().Messages[:9]) {
		t.Error("the schema was changed")
	}
	given := []string{text}
	for _, m := range s.Messages {
		given = append(given, m.Name)
	}
	for _, m := range s.Methods {
		given = append(given, m.Service, m.Name)
	}
	checkApart(t, slices.Concat(rows, again, read), given...)
	// A second answer has nothing of the first one.
	clear(rows[:cap(rows)])
	clear(read[:cap(read)])
	second, _ := Emit(s)
	readAgain, _ := Read(text)
	if second != text || overlap(second, text) || !slices.Equal(again, modelRows(s)) || !slices.Equal(again, readAgain) || !slices.Equal(again, Rows(s)) {
		t.Error("answers share memory")
	}
}

// P13.2 and R1: long texts are read in a time that grows as they do.
func TestLong(t *testing.T) {
	const count = 20000
	var clients, cases strings.Builder
	for i := range count {
		s := fmt.Sprint("S", i/2)
		if i%2 == 0 {
			fmt.Fprintf(&clients, "type %sClient struct{ Caller }\n\n", s)
		}
		fmt.Fprintf(&clients, "func (c %sClient) M(in A) (B, Status) { return call[B](c.Caller, %d, in) }\n\n", s, i+1)
		fmt.Fprintf(&cases, "\tcase %d:\n\t\treturn h.%s_M(in.(A))\n", i+1, s)
	}
	text := strings.Replace(strings.Replace(noneText, "func", clients.String()+"func", 1), "\t}\n", cases.String()+"\t}\n", 1)
	rows, err := Read(text)
	if err != api.OK || len(rows) != count || rows[count-1] != (Row{count, fmt.Sprint("S", count/2-1), "M", "A", "B"}) {
		t.Error(len(rows), err)
	}
	for _, part := range []string{"\n", "func (c ", "func (c \n", "Client) ", "func (c AClient) M(in A) (B, Status)\n", "func (c AClient) M(in A) (B", "\tcase 1:\n", "a", "_", "\xff", "package stubs\n\n"} {
		for _, text := range []string{strings.Repeat(part, 200000), "package stubs\n\n" + strings.Repeat(part, 200000), "func (c AClient) M(in A) (" + strings.Repeat(part, 200000), sampleText + strings.Repeat(part, 200000)} {
			if rows, err := Read(text); err != api.ErrForm || len(rows) > 0 {
				t.Errorf("%q many times: %d rows, %d", part, len(rows), err)
			}
		}
	}
}

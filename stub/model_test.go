package stub

import (
	"fmt"
	"math/rand"
	"regexp"
	"slices"
	"strings"
	"testing"
	"unicode/utf8"

	"courier/api"
	"courier/schema"
)

// words are what stands at the places of a row, be it right there or not.
type words struct{ id, service, method, in, out string }

// wordsOf answers what stands at the places of rows, with the IDs 1, 2, 3 ..
func wordsOf(rows []Row) []words {
	var list []words
	for i, r := range rows {
		list = append(list, words{fmt.Sprint(i + 1), r.Service, r.Method, r.In, r.Out})
	}
	return list
}

// modelText answers the text that the chapter tells of rows.
func modelText(list []words) string {
	clients, cases := "", ""
	for i, w := range list {
		if i == 0 || w.service != list[i-1].service {
			clients += fmt.Sprintf("type %sClient struct{ Caller }\n\n", w.service)
		}
		clients += fmt.Sprintf("func (c %[2]sClient) %[3]s(in %[4]s) (%[5]s, Status) { return call[%[5]s](c.Caller, %[1]s, in) }\n\n", w.id, w.service, w.method, w.in, w.out)
		cases += fmt.Sprintf("\tcase %s:\n\t\treturn h.%s_%s(in.(%s))\n", w.id, w.service, w.method, w.in)
	}
	return "package stubs\n\n" + clients + "func Dispatch(h Handlers, id int, in any) (any, Status) {\n\tswitch id {\n" + cases + "\t}\n\treturn nil, Unimplemented\n}\n"
}

// The forms of all lines, and of the ends of a text, each with what comes behind it.
const (
	letter  = `[a-zA-Z\x{391}-\x{3c9}]`
	camel   = `(` + letter + `[a-zA-Z\x{391}-\x{3c9}0-9]{0,39})`
	message = `(` + letter + `[a-zA-Z\x{391}-\x{3c9}0-9_]{0,399})`
)

var (
	clientForm = regexp.MustCompile(`^type ` + camel + `Client struct\{ Caller \}\n\n`)
	methodForm = regexp.MustCompile(`^func \(c ` + camel + `Client\) ` + camel + `\(in ` + message + `\) \(` + message + `, Status\) \{ return call\[` + message + `\]\(c\.Caller, ([1-9][0-9]*), in\) \}\n\n`)
	caseForm   = regexp.MustCompile(`^\tcase ([1-9][0-9]*):\n\t\treturn h\.` + camel + `_` + camel + `\(in\.\(` + message + `\)\)\n`)
	frontForm  = regexp.MustCompile(`^package stubs\n\n`)
	switchForm = regexp.MustCompile(`^func Dispatch\(h Handlers, id int, in any\) \(any, Status\) \{\n\tswitch id \{\n`)
	endForm    = regexp.MustCompile(`^\t\}\n\treturn nil, Unimplemented\n\}\n$`)
)

// strict reads texts line by line, each by its form: it never writes one to compare.
type strict struct {
	rest string
	bad  bool
}

// next answers the parts of form at the front and goes on behind it, or nil.
func (r *strict) next(form *regexp.Regexp) []string {
	parts := form.FindStringSubmatch(r.rest)
	if parts != nil {
		r.rest = r.rest[len(parts[0]):]
	}
	return parts
}

func (r *strict) must(ok bool) { r.bad = r.bad || !ok }

// modelRead answers the rows of a text, and whether it is one.
func modelRead(text string) ([]Row, bool) {
	var rows []Row
	r := strict{rest: text}
	r.must(r.next(frontForm) != nil)
	for client := r.next(clientForm); client != nil; client = r.next(clientForm) {
		// A service of rows that stand together comes once, and none comes without rows.
		r.must(len(rows) == 0 || rows[len(rows)-1].Service != client[1])
		before := len(rows)
		for m := r.next(methodForm); m != nil; m = r.next(methodForm) {
			id := len(rows) + 1
			r.must(m[1] == client[1] && m[4] == m[5] && m[6] == fmt.Sprint(id))
			rows = append(rows, Row{id, m[1], m[2], m[3], m[4]})
		}
		r.must(len(rows) > before)
	}
	r.must(r.next(switchForm) != nil)
	for _, row := range rows {
		c := r.next(caseForm)
		r.must(c != nil && slices.Equal(c[1:], []string{fmt.Sprint(row.ID), row.Service, row.Method, row.In}))
	}
	r.must(r.next(endForm) != nil && r.rest == "")
	return rows, !r.bad
}

// modelCamel answers the stub name of a service or a method.
func modelCamel(name string) string {
	parts := strings.Split(name, "_")
	for i, part := range parts {
		if part != "" && part[0] < utf8.RuneSelf {
			parts[i] = strings.ToUpper(part[:1]) + part[1:]
		}
	}
	return strings.Join(parts, "")
}

// modelMessage answers the stub name of a message.
func modelMessage(name string) string { return strings.Join(strings.Split(name, "."), "_") }

// modelRows answers the rows of a schema that is formed.
func modelRows(s api.Schema) []Row {
	var rows []Row
	for _, m := range s.Methods {
		rows = append(rows, Row{m.ID, modelCamel(m.Service), modelCamel(m.Name), modelMessage(s.Messages[m.In].Name), modelMessage(s.Messages[m.Out].Name)})
	}
	return rows
}

// modelClash answers whether Emit has to answer ErrName of a schema that is formed:
// each pair is asked for itself.
func modelClash(s api.Schema) bool {
	clash := false
	for i, a := range s.Methods {
		for j, b := range s.Methods[:i] {
			oneService := modelCamel(a.Service) == modelCamel(b.Service)
			clash = clash || oneService && modelCamel(a.Name) == modelCamel(b.Name)
			clash = clash || oneService && a.Service != b.Service && i == j+1
		}
	}
	for i, a := range s.Messages {
		for _, b := range s.Messages[:i] {
			clash = clash || modelMessage(a.Name) == modelMessage(b.Name)
		}
	}
	return clash
}

// checkModel holds all calls at a schema against the model, and answers what Emit
// must answer.
func checkModel(t *testing.T, s api.Schema) api.Errno {
	t.Helper()
	switch {
	case !schema.Formed(s):
		checkError(t, s, nil, api.ErrArg)
		return api.ErrArg
	case modelClash(s):
		checkError(t, s, modelRows(s), api.ErrName)
		return api.ErrName
	}
	check(t, s, modelRows(s), modelText(wordsOf(modelRows(s))))
	return api.OK
}

// checkText holds what Read answers of any text against the model, and answers
// whether it is made of rows.
func checkText(t *testing.T, text string) bool {
	t.Helper()
	want, ok := modelRead(text)
	rows, err := Read(text)
	if ok && (err != api.OK || !slices.Equal(rows, want)) {
		t.Errorf("Read(%.2000q) = %v, %d, want %v", text, rows, err, want)
	}
	if !ok && (err != api.ErrForm || len(rows) > 0) {
		t.Errorf("Read(%.2000q) = %v, %d, want ErrForm", text, rows, err)
	}
	return ok
}

// dice makes schemas and texts at random.
type dice struct{ *rand.Rand }

func (d dice) one(list ...string) string { return list[d.Intn(len(list))] }

// name answers a name of which there are few, with few stub names.
func (d dice) name() string {
	return d.one("a", "A", "a_", "A_", "a_b", "aB", "AB", "a__b", "A_b_", "b", "λ", "λ_", "λa", "λ_a", "λ_A", "Client", "client", "x1", "x_1", "X1_", strings.Repeat("w", 40))
}

func (d dice) messageName() string {
	return d.one("A", "B", "C", "A.B", "A_B", "A.B.C", "A.B_C", "A_B.C", "A.C", "λ.A", "λ_A", "a.b.c.d.e.f.g.h", "Client", "Status", "B.A")
}

// schema answers a schema, mostly formed.
func (d dice) schema() api.Schema {
	var s api.Schema
	for range 1 + d.Intn(4) {
		s.Messages = append(s.Messages, api.MessageDef{Name: d.messageName()})
	}
	if d.Intn(4) == 0 {
		s.Enums = append(s.Enums, api.EnumDef{Name: d.messageName(), Values: []api.ValueDef{{Name: "z"}}})
	}
	service := d.name()
	for i := range d.Intn(6) {
		if d.Intn(3) == 0 {
			service = d.name()
		}
		s.Methods = append(s.Methods, api.MethodDef{ID: i + 1, Service: service, Name: d.name(), In: d.Intn(len(s.Messages)), Out: d.Intn(len(s.Messages))})
	}
	if len(s.Methods) > 0 && d.Intn(10) == 0 {
		m := &s.Methods[d.Intn(len(s.Methods))]
		m.ID += d.Intn(2)
		m.In += d.Intn(2)
		m.Service = d.one(m.Service, "1", "")
	}
	return s
}

// rows answers rows, mostly such as a text may be made of.
func (d dice) rows() []Row {
	camel := func() string {
		return d.one("A", "B", "a", "λ", "Client", "ClientClient", "message", "X1", strings.Repeat("ω", 40))
	}
	message := func() string {
		return d.one("A", "A_B", "b_", "λ__1", "in", "Status", strings.Repeat("ω", 400), "A1")
	}
	var rows []Row
	for range d.Intn(6) {
		row := Row{len(rows) + 1, camel(), camel(), message(), message()}
		if len(rows) > 0 && d.Intn(2) == 0 {
			row.Service = rows[len(rows)-1].Service
		}
		if d.Intn(20) == 0 {
			places := []*string{&row.Service, &row.Method, &row.In, &row.Out}
			*places[d.Intn(4)] = d.one("", "_", "_a", "1", "a b", "a.b", "a_b", "é", "\xff", strings.Repeat("ω", 41), strings.Repeat("ω", 401))
		}
		rows = append(rows, row)
	}
	return rows
}

// edited answers the text with something changed in it.
func (d dice) edited(text string) string {
	if d.Intn(2) == 0 {
		return d.otherLines(text)
	}
	at := d.Intn(len(text) + 1)
	ahead, behind := text[:at], text[at:]
	few := behind[:min(len(behind), d.Intn(4))]
	bit := d.one(" ", "\n", "\t", "\r", "0", "1", "2", "_", "a", "A", "λ", "(", ")", "Client", "Client) ", "(in ", ") (", ", Status)", "func (c ", "\x00", "\xff")
	switch d.Intn(5) {
	case 0:
		return ahead + bit + behind
	case 1:
		return ahead + bit + behind[len(few):]
	case 2:
		return ahead + behind[len(few):]
	case 3:
		return ahead + few + behind
	}
	// A word is another one wherever it stands: what comes may be right.
	return strings.ReplaceAll(text, d.one("A", "B", "a", "λ", "1", "A_B", "X1"), d.one("A", "B", "Q", "λ", "2", "_", "b_"))
}

// otherLines answers the text with its lines in another order, one left out, or one
// twice.
func (d dice) otherLines(text string) string {
	lines := strings.SplitAfter(text, "\n")
	i, j := d.Intn(len(lines)), d.Intn(len(lines))
	switch d.Intn(3) {
	case 0:
		lines[i], lines[j] = lines[j], lines[i]
	case 1:
		lines = slices.Delete(lines, i, i+1)
	case 2:
		lines = slices.Insert(lines, j, lines[i])
	}
	return strings.Join(lines, "")
}

// P13.1 and P13.3: schemas at random, held against the model.
func TestRandomSchemas(t *testing.T) {
	d := dice{rand.New(rand.NewSource(13))}
	var counts [api.ErrFull + 1]int
	for range 20000 {
		counts[checkModel(t, d.schema())]++
		if t.Failed() {
			return
		}
	}
	if min(counts[api.OK], counts[api.ErrArg], counts[api.ErrName]) < 2000 {
		t.Errorf("too few of one sort: %v", counts)
	}
}

// P13.2: texts at random, such as are made of rows, and nearly so.
func TestRandomTexts(t *testing.T) {
	d := dice{rand.New(rand.NewSource(31))}
	right, kept, spoiled := 0, 0, 0
	for range 20000 {
		text := modelText(wordsOf(d.rows()))
		if checkText(t, text) {
			right++
		}
		for range 1 + d.Intn(2) {
			text = d.edited(text)
			if checkText(t, text) {
				kept++
			} else {
				spoiled++
			}
		}
		if t.Failed() {
			return
		}
	}
	if right < 10000 || kept < 1000 || spoiled < 10000 {
		t.Errorf("%d right, %d kept, %d spoiled: too few of one sort", right, kept, spoiled)
	}
}

// P4 and P13.2: any text.
func FuzzRead(f *testing.F) {
	d := dice{rand.New(rand.NewSource(7))}
	for range 20 {
		text := modelText(wordsOf(d.rows()))
		f.Add(text)
		f.Add(d.edited(text))
	}
	f.Add(sampleText)
	f.Fuzz(func(t *testing.T, text string) { checkText(t, text) })
}

// P4, P13.1 and P13.3: the schemas of any text.
func FuzzEmit(f *testing.F) {
	f.Add(sample)
	f.Add("message A {} service S { rpc get_a(A) returns (A); rpc getA(A) returns (A); }")
	f.Fuzz(func(t *testing.T, text string) {
		if s, _, err := schema.Compile(text); err == api.OK {
			checkModel(t, s)
		}
	})
}

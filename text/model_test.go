package text

import (
	"encoding/hex"
	"fmt"
	"math"
	"math/big"
	"math/rand"
	"reflect"
	"regexp"
	"slices"
	"strconv"
	"strings"
	"testing"
	"unicode/utf8"

	"courier/api"
	"courier/value"
)

// What stands for a value of each sort, written as it must be.
var (
	numberForm = regexp.MustCompile(`^(0|-?[1-9][0-9]*)`)
	boolForm   = regexp.MustCompile(`^(true|false)`)
	textForm   = regexp.MustCompile(`^"([^"\\\x00-\x1f\x7f]|\\["\\n]|\\u000[0-9b-f]|\\u001[0-9a-f]|\\u007f)*"`)
	bytesForm  = regexp.MustCompile(`^x"([0-9a-f]{2})*"`)
	wordForm   = regexp.MustCompile(`^[^,\]} ]+`)
)

// strict reads texts by a rule for each thing: it never writes one to compare.
type strict struct {
	s    api.Schema
	rest string
	bad  bool
}

// take answers what form finds at the front, and goes on behind it.
func (r *strict) take(form *regexp.Regexp) string {
	found := form.FindString(r.rest)
	r.bad = r.bad || found == ""
	r.rest = r.rest[len(found):]
	return found
}

func (r *strict) must(word string) {
	r.bad = r.bad || !strings.HasPrefix(r.rest, word)
	r.rest = strings.TrimPrefix(r.rest, word)
}

func (r *strict) next(word string) bool {
	found := strings.HasPrefix(r.rest, word)
	r.rest = strings.TrimPrefix(r.rest, word)
	return found
}

// message reads a Message: it asks of each field of the schema, in order, whether it
// is there.
func (r *strict) message(number, depth int) value.Message {
	m := value.Message{Type: number}
	r.bad = r.bad || depth > 16
	r.must("{")
	ahead := ""
	for _, def := range r.s.Messages[number].Fields {
		if r.bad || !r.next(ahead+def.Name+": ") {
			continue
		}
		ahead = ", "
		m.Fields = append(m.Fields, value.Field{Number: def.Number, Values: r.values(def, depth)})
	}
	if r.next(ahead + "?: ") {
		m.Unknown = r.bytes()
		r.bad = r.bad || m.Unknown == "" || !value.Fits(r.s, number, value.Message{Type: number, Unknown: m.Unknown})
	}
	r.must("}")
	return m
}

func (r *strict) values(def api.FieldDef, depth int) []value.Value {
	if !def.Repeated {
		v := r.value(def, depth)
		r.bad = r.bad || def.Kind != api.Message && reflect.ValueOf(v).IsZero()
		return []value.Value{v}
	}
	r.must("[")
	list := []value.Value{r.value(def, depth)}
	for !r.bad && r.next(", ") {
		list = append(list, r.value(def, depth))
	}
	r.must("]")
	return list
}

// value reads a value; what it answers means nothing, once bad.
func (r *strict) value(def api.FieldDef, depth int) value.Value {
	switch def.Kind {
	case api.Int64, api.Sint64:
		return value.Int(r.number(math.MinInt64, math.MaxInt64))
	case api.Uint64, api.Fixed64:
		return value.Uint(r.number(0, math.MaxUint64))
	case api.Fixed32:
		return value.Uint(r.number(0, math.MaxUint32))
	case api.Bool:
		return value.Bool(r.take(boolForm) == "true")
	case api.Text:
		return r.text()
	case api.Bytes:
		return value.Bytes(r.bytes())
	case api.Enum:
		return r.enum(r.s.Enums[def.Type].Values)
	}
	return r.message(def.Type, depth+1)
}

// number reads a number and answers its lowest 64 bits.
func (r *strict) number(least int64, most uint64) uint64 {
	n, ok := new(big.Int).SetString(r.take(numberForm), 10)
	if !ok || n.Cmp(big.NewInt(least)) < 0 || n.Cmp(new(big.Int).SetUint64(most)) > 0 {
		r.bad = true
		return 0
	}
	if n.Sign() < 0 {
		return uint64(n.Int64())
	}
	return n.Uint64()
}

func (r *strict) text() value.Value {
	quoted := r.take(textForm)
	s, err := strconv.Unquote(quoted)
	r.bad = r.bad || err != nil || !utf8.ValidString(quoted)
	return value.Text(s)
}

func (r *strict) bytes() string {
	quoted := r.take(bytesForm)
	b, err := hex.DecodeString(strings.Trim(quoted, `x"`))
	r.bad = r.bad || err != nil
	return string(b)
}

// enum reads a name, or the digits of a number that has none.
func (r *strict) enum(list []api.ValueDef) value.Value {
	rest := r.rest
	word := r.take(wordForm)
	at := slices.IndexFunc(list, func(v api.ValueDef) bool { return v.Name == word })
	if at >= 0 {
		return value.Enum(list[at].Number)
	}
	r.rest = rest
	n := value.Enum(r.number(math.MinInt32, math.MaxInt32))
	r.bad = r.bad || slices.ContainsFunc(list, func(v api.ValueDef) bool { return v.Number == int(n) })
	return n
}

// modelRead answers the value of a text, and whether it is one's.
func modelRead(s api.Schema, number int, text string) (value.Message, bool) {
	r := strict{s: s, rest: text}
	m := r.message(number, 1)
	return m, !r.bad && r.rest == ""
}

// modelText answers the text of a normal value that fits.
func modelText(s api.Schema, v value.Value, def api.FieldDef) string {
	switch v := v.(type) {
	case value.Bytes:
		return fmt.Sprintf(`x"%x"`, string(v))
	case value.Text:
		pairs := []string{`"`, `\"`, `\`, `\\`, "\n", `\n`, "\x7f", `\u007f`}
		for r := range rune(0x20) {
			pairs = append(pairs, string(r), fmt.Sprintf(`\u%04x`, r))
		}
		return `"` + strings.NewReplacer(pairs...).Replace(string(v)) + `"`
	case value.Enum:
		for _, one := range s.Enums[def.Type].Values {
			if one.Number == int(v) {
				return one.Name
			}
		}
		return fmt.Sprint(int(v))
	case value.Message:
		var parts []string
		for _, def := range s.Messages[v.Type].Fields {
			var texts []string
			for _, one := range value.Get(v, def.Number) {
				texts = append(texts, modelText(s, one, def))
			}
			text := strings.Join(texts, ", ")
			if def.Repeated {
				text = "[" + text + "]"
			}
			if len(texts) > 0 {
				parts = append(parts, def.Name+": "+text)
			}
		}
		if v.Unknown != "" {
			parts = append(parts, "?: "+modelText(s, value.Bytes(v.Unknown), def))
		}
		return "{" + strings.Join(parts, ", ") + "}"
	}
	return fmt.Sprint(v)
}

// dice makes values and texts at random.
type dice struct {
	*rand.Rand
	s api.Schema
}

// wrapped answers m, a Message of All or Part, in others, at times deeper than may be.
func (d dice) wrapped(m value.Message) value.Message {
	for range d.Intn(20) {
		if m.Type == 0 {
			m = part(field(2, m))
		} else {
			m = all(field([]int{10, 30}[d.Intn(2)], m))
		}
	}
	return m
}

// message answers a Message that fits, mostly.
func (d dice) message(number, depth int) value.Message {
	m := value.Message{Type: number}
	for _, def := range d.s.Messages[number].Fields {
		if d.Intn(4) > 0 || def.Kind == api.Message && depth > 3 && d.Intn(10) < 7 {
			continue
		}
		count := 1
		if def.Repeated {
			count += d.Intn(3)
		}
		f := value.Field{Number: def.Number}
		for range count {
			if def.Kind == api.Message {
				f.Values = append(f.Values, d.message(def.Type, depth+1))
			} else {
				values, _ := ofKind(def.Kind)
				f.Values = append(f.Values, d.varied(values[d.Intn(len(values))]))
			}
		}
		m.Fields = append(m.Fields, f)
	}
	for d.Intn(4) == 0 {
		m.Unknown += []string{"\x58\x01", "\xf8\x01\x81\x00", "\x5a\x02ab", "\x65\x00\x01\xfe\xff", "\xfa\xff\xff\xff\x0f\x00"}[d.Intn(5)]
	}
	return m
}

// varied answers a value like v.
func (d dice) varied(v value.Value) value.Value {
	if d.Intn(2) == 0 {
		return v
	}
	switch v := v.(type) {
	case value.Int:
		return v >> d.Intn(64)
	case value.Uint:
		return v >> d.Intn(64)
	case value.Enum:
		return v >> d.Intn(32)
	case value.Text:
		return v + value.Text(rune(d.Intn(0x90))) + value.Text(rune(d.Intn(0xd800)))
	case value.Bytes:
		return v + value.Bytes([]byte{byte(d.Intn(256))})
	}
	return v
}

// edited answers the text with something changed in it.
func (d dice) edited(text, other string) string {
	at := d.Intn(len(text) + 1)
	ahead, behind := text[:at], text[at:]
	few := behind[:min(len(behind), d.Intn(4))]
	bits := []string{" ", "0", "1", "9", "-", "+", "\"", "\\", "\\n", "\\u0001", "\\u0041", "a", "F", "x\"\"", "x", "{", "}", "{}", "[", "]", ",", ", ", ":", ": ", "i: 1, ", "?: ", "true", "one", "\x00", "\n", "\xff", "λ"}
	bit := bits[d.Intn(len(bits))]
	switch d.Intn(6) {
	case 0:
		return ahead + bit + behind
	case 1:
		return ahead + bit + behind[len(few):]
	case 2:
		return ahead + behind[len(few):]
	case 3:
		return ahead + few + behind
	case 4:
		digit := strings.IndexAny(behind, "0123456789")
		if digit >= 0 {
			return ahead + behind[:digit] + strconv.Itoa(d.Intn(10)) + behind[digit+1:]
		}
	}
	// Where two texts have the same sign, one goes on as the other.
	for _, sign := range []string{", ", "}", "["} {
		if i, j := strings.Index(behind, sign), strings.LastIndex(other, sign); i >= 0 && j >= 0 {
			return ahead + behind[:i] + other[j:]
		}
	}
	return other
}

// checkText holds what the package answers of any text against the model, and
// answers whether it is one of a value.
func checkText(t *testing.T, s api.Schema, number int, text string) bool {
	t.Helper()
	want, ok := modelRead(s, number, text)
	if ok {
		check(t, s, number, want, text)
	} else {
		checkRefused(t, s, number, text, api.ErrForm)
	}
	return ok
}

// P12.1 and P12.2: values at random, and texts that are theirs, or nearly so.
func TestAtRandom(t *testing.T) {
	d := dice{rand.New(rand.NewSource(12)), declaredSchema()}
	right, deep, kept, spoiled, other := 0, 0, 0, 0, "{}"
	for range 20000 {
		number := d.Intn(len(d.s.Messages))
		v := d.message(number, 1)
		if number < 2 && d.Intn(10) == 0 {
			v = d.wrapped(v)
			number = v.Type
		}
		normal, err := value.Normal(d.s, number, v)
		if err != api.OK {
			checkUnfit(t, d.s, number, v)
			checkText(t, d.s, number, modelText(d.s, v, api.FieldDef{}))
			deep++
			continue
		}
		text := modelText(d.s, normal, api.FieldDef{})
		check(t, d.s, number, v, text)
		right++
		if !checkText(t, d.s, number, text) {
			t.Errorf("the model refuses %s", text)
		}
		// The text of what isn't normal is none.
		if raw := modelText(d.s, v, api.FieldDef{}); checkText(t, d.s, number, raw) != (raw == text) {
			t.Errorf("%s is like %s", raw, text)
		}
		near := text
		for range 1 + d.Intn(2) {
			near = d.edited(near, other)
			if checkText(t, d.s, number, near) {
				kept++
			} else {
				spoiled++
			}
		}
		other = text
		if t.Failed() {
			return
		}
	}
	if right < 10000 || deep < 200 || kept < 1000 || spoiled < 10000 {
		t.Errorf("%d right, %d too deep, %d kept, %d spoiled: too few of one sort", right, deep, kept, spoiled)
	}
}

// P4: any text, as one of each message, and any text quoted.
func FuzzParse(f *testing.F) {
	for kind := api.Int64; kind <= api.Message; kind++ {
		_, texts := ofKind(kind)
		for _, text := range texts {
			f.Add("{"+names[kind]+": "+text+", r"+names[kind]+": ["+text+", "+text+"]}", int64(kind))
		}
	}
	for _, text := range []string{"", "{}", `{p: {all: [{p: {none: {}}}, {}], l: [true]}, ?: x"5801"}`, `{?: x"0801"}`, `{i: 0}`, `{t: "\u0041\n"}`} {
		f.Add(text, int64(len(text)))
	}
	s := declaredSchema()
	f.Fuzz(func(t *testing.T, text string, seed int64) {
		d := dice{rand.New(rand.NewSource(seed)), s}
		for number := range s.Messages {
			checkText(t, s, number, text)
			checkText(t, s, number, d.edited(text, "{i: 1}"))
		}
		want := ""
		if utf8.ValidString(text) {
			want = modelText(s, value.Text(text), api.FieldDef{})
		}
		if got := Quote(text); got != want {
			t.Errorf("Quote(%q) = %s, want %s", text, got, want)
		}
		check(t, s, 0, all(field(26, value.Bytes(text))), fmt.Sprintf(`{ry: [x"%x"]}`, text))
	})
}

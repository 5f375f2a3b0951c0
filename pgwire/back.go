package pgwire

import (
	"bytes"

	"cormorant/api"
)

// tagOf is that of a kind of the server's messages; 0: it has none.
func tagOf(kind int) byte {
	tags := [...]byte{
		api.BackAuthOk: 'R', api.BackParameter: 'S', api.BackKeyData: 'K', api.BackReady: 'Z', api.BackFields: 'T',
		api.BackRow: 'D', api.BackComplete: 'C', api.BackEmpty: 'I', api.BackError: 'E',
	}
	if kind < 0 || kind >= len(tags) {
		return 0
	}
	return tags[kind]
}

// kindOf is the kind of a tag; 0: there is none.
func kindOf(tag byte) int {
	for kind := api.BackAuthOk; kind <= api.BackError; kind++ {
		if tagOf(kind) == tag {
			return kind
		}
	}
	return 0
}

// typeNumbers are what a type is called, and how many bytes it has; false: it is none.
func typeNumbers(t int) (int, int, bool) {
	switch t {
	case api.TypeInt:
		return 20, 8, true
	case api.TypeBool:
		return 16, 1, true
	case api.TypeText:
		return 25, -1, true
	}
	return 0, 0, false
}

func typeOf(number int) int {
	for t := api.TypeInt; t <= api.TypeText; t++ {
		if n, _, _ := typeNumbers(t); n == number {
			return t
		}
	}
	return 0
}

// isBack tells whether a message of the server's may be: it has what its kind needs, and nothing else.
func isBack(m api.Back) bool {
	rest := m // what its kind has no use for stays in it
	rest.Kind = 0
	ok := true
	switch m.Kind {
	case api.BackAuthOk, api.BackEmpty, api.BackRefuse:
	case api.BackParameter:
		ok = isText(m.Name)
		rest.Name = ""
		fallthrough
	case api.BackComplete:
		ok = ok && isText(m.Text)
		rest.Text = ""
	case api.BackKeyData:
		ok = isInt32(m.Pid) && isInt32(m.Secret)
		rest.Pid, rest.Secret = 0, 0
	case api.BackReady:
		ok = m.Status == 'I' || m.Status == 'T' || m.Status == 'E'
		rest.Status = 0
	case api.BackFields:
		ok = areFields(m.Fields)
		rest.Fields = nil
	case api.BackRow:
		ok = areCells(m.Cells)
		rest.Cells = nil
	case api.BackError:
		ok = isState(m.State) && isText(m.Text)
		rest.State, rest.Text, rest.Fatal = "", "", false
	default:
		return false
	}
	return ok && rest.Name == "" && rest.Text == "" && rest.Pid == 0 && rest.Secret == 0 && rest.Status == 0 &&
		len(rest.Fields) == 0 && len(rest.Cells) == 0 && rest.State == "" && !rest.Fatal
}

func areFields(l []api.Field) bool {
	for _, f := range l {
		if _, _, ok := typeNumbers(f.Type); !ok || !isText(f.Name) {
			return false
		}
	}
	return len(l) <= mostFields
}

func areCells(l []api.Cell) bool {
	for _, c := range l {
		if c.Null && c.Text != "" {
			return false
		}
	}
	return len(l) <= mostFields
}

func isState(s string) bool {
	for _, c := range []byte(s) {
		if (c < '0' || c > '9') && (c < 'A' || c > 'Z') {
			return false
		}
	}
	return len(s) == 5
}

// isLong tells whether a message's texts alone are too long for one.
func isLong(m api.Back) bool {
	n := len(m.Name) + len(m.Text)
	for _, f := range m.Fields {
		n += len(f.Name)
	}
	for _, c := range m.Cells {
		n += len(c.Text)
	}
	return n > mostBack
}

// Put is a message of the server's as bytes; Take reads one.
func Put(m api.Back) ([]byte, api.Errno) {
	if !isBack(m) {
		return nil, api.ErrWireForm
	}
	if m.Kind == api.BackRefuse {
		return []byte{refusal}, api.OK
	}
	if isLong(m) {
		return nil, api.ErrWireLong
	}
	var w writer
	switch m.Kind {
	case api.BackAuthOk:
		w.int32(0)
	case api.BackParameter:
		w.string(m.Name)
		fallthrough
	case api.BackComplete:
		w.string(m.Text)
	case api.BackKeyData:
		w.int32(m.Pid)
		w.int32(m.Secret)
	case api.BackReady:
		w.b = []byte{m.Status}
	case api.BackFields:
		w.fields(m.Fields)
	case api.BackRow:
		w.cells(m.Cells)
	case api.BackError:
		w.fault(m)
	}
	return framed([]byte{tagOf(m.Kind)}, w.b, mostBack)
}

func (w *writer) fields(l []api.Field) {
	w.int16(len(l))
	for _, f := range l {
		number, size, _ := typeNumbers(f.Type)
		w.string(f.Name)
		w.int32(0)
		w.int16(0)
		w.int32(number)
		w.int16(size)
		w.int32(-1)
		w.int16(0)
	}
}

func (w *writer) cells(l []api.Cell) {
	w.int16(len(l))
	for _, c := range l {
		if c.Null {
			w.int32(-1)
			continue
		}
		w.int32(len(c.Text))
		w.b = append(w.b, c.Text...)
	}
}

func (w *writer) fault(m api.Back) {
	severity := "ERROR"
	if m.Fatal {
		severity = "FATAL"
	}
	w.string("S" + severity)
	w.string("V" + severity)
	w.string("C" + m.State)
	w.string("M" + m.Text)
	w.b = append(w.b, 0)
}

func Take(b []byte) (api.Back, int, api.Errno) {
	if len(b) == 0 {
		return api.Back{}, 0, api.ErrCodecShort
	}
	if b[0] == refusal {
		return api.Back{Kind: api.BackRefuse}, 1, api.OK
	}
	kind := kindOf(b[0])
	if kind == 0 {
		return api.Back{}, 0, api.ErrWireForm
	}
	body, n, e := takeBody(b, mostBack)
	if e != api.OK {
		return api.Back{}, 0, e
	}
	r := &reader{b: body}
	m := r.back(kind)
	// Only what Put makes is a message: whatever else could be wrong shows as another byte.
	again, e := Put(m)
	if r.bad || e != api.OK || !bytes.Equal(again, b[:n]) {
		return api.Back{}, 0, api.ErrWireForm
	}
	return m, n, api.OK
}

// back reads what may be a message of a kind.
func (r *reader) back(kind int) api.Back {
	m := api.Back{Kind: kind}
	switch kind {
	case api.BackParameter:
		m.Name = r.string()
		fallthrough
	case api.BackComplete:
		m.Text = r.string()
	case api.BackKeyData:
		m.Pid, m.Secret = r.int32(), r.int32()
	case api.BackReady:
		m.Status = r.byte()
	case api.BackFields:
		for n := r.int16(); n > 0 && !r.bad; n-- {
			f := api.Field{Name: r.string()}
			r.bytes(6)
			f.Type = typeOf(r.int32())
			r.bytes(8)
			m.Fields = append(m.Fields, f)
		}
	case api.BackRow:
		for n := r.int16(); n > 0 && !r.bad; n-- {
			long := r.int32()
			c := api.Cell{Null: long == -1}
			if !c.Null {
				c.Text = string(r.bytes(long))
			}
			m.Cells = append(m.Cells, c)
		}
	case api.BackError:
		m.Fatal = r.string() == "SFATAL"
		r.string()
		m.State, m.Text = r.part('C'), r.part('M')
	}
	return m
}

// part is what stands behind a letter in a string.
func (r *reader) part(letter byte) string {
	s := r.string()
	if s == "" || s[0] != letter {
		r.bad = true
		return ""
	}
	return s[1:]
}

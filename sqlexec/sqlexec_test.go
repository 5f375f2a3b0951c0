package sqlexec_test

import (
	"bytes"
	"fmt"
	"maps"
	"math/rand"
	"reflect"
	"slices"
	"strings"
	"testing"

	"cormorant/api"
	"cormorant/catalog"
	"cormorant/codec"
	"cormorant/rowkey"
	"cormorant/sqlexec"
	"cormorant/sqlparse"
)

// store is all rows.
type store map[string]string

func (s store) view(spans []api.Span) api.View {
	v := api.View{Spans: spans}
	for _, k := range slices.Sorted(maps.Keys(s)) {
		for _, p := range spans {
			if k >= string(p.From) && k < string(p.To) {
				v.Rows = append(v.Rows, api.KV{Key: []byte(k), Value: []byte(s[k])})
			}
		}
	}
	return v
}

func (s store) whole() api.View {
	return s.view([]api.Span{{From: nil, To: []byte{255, 255}}})
}

func (s store) write(l []api.Op) {
	for _, op := range l {
		if op.Del {
			delete(s, string(op.Key))
		} else {
			s[string(op.Key)] = string(op.Value)
		}
	}
}

func stmt(t *testing.T, text string) api.Stmt {
	t.Helper()
	l, f := sqlparse.Parse(text)
	if f.Code != api.OK || len(l) != 1 {
		t.Fatalf("%s: %v", text, f)
	}
	return l[0]
}

// join makes one list of spans of two.
func join(a, b []api.Span) []api.Span {
	l := append(slices.Clone(a), b...)
	slices.SortFunc(l, func(x, y api.Span) int { return bytes.Compare(x.From, y.From) })
	var out []api.Span
	for _, p := range l {
		if k := len(out) - 1; k >= 0 && bytes.Compare(p.From, out[k].To) <= 0 {
			if bytes.Compare(out[k].To, p.To) < 0 {
				out[k].To = p.To
			}
			continue
		}
		out = append(out, p)
	}
	return out
}

// answer lets a statement read what it needs, from some spans on; the needs, call by call.
func answer(t *testing.T, s store, x api.Stmt, spans []api.Span) (api.Outcome, api.Errno, [][]api.Span) {
	t.Helper()
	var needs [][]api.Span
	for range 14 {
		o, e := sqlexec.Run(x, s.view(spans))
		if len(o.Needs) == 0 {
			return o, e, needs
		}
		if e != api.OK || o.Writes != nil || o.Fields != nil || o.Rows != nil || o.Tag != "" {
			t.Fatal("something beside needs")
		}
		for i, p := range o.Needs {
			if bytes.Compare(p.From, p.To) >= 0 || i > 0 && bytes.Compare(o.Needs[i-1].To, p.From) > 0 || isCovered(spans, p) {
				t.Fatalf("needs %v, where %v is there", o.Needs, spans)
			}
		}
		needs = append(needs, o.Needs)
		spans = join(spans, o.Needs)
	}
	t.Fatalf("no answer in the 14th call: %v", needs)
	return api.Outcome{}, 0, nil
}

func isCovered(spans []api.Span, p api.Span) bool {
	for _, q := range join(spans, nil) {
		if bytes.Compare(q.From, p.From) <= 0 && bytes.Compare(p.To, q.To) <= 0 {
			return true
		}
	}
	return false
}

// run does a statement, and writes what it writes.
func run(t *testing.T, s store, text string) (api.Outcome, api.Errno) {
	t.Helper()
	o, e, _ := answer(t, s, stmt(t, text), nil)
	w, f := sqlexec.Run(stmt(t, text), s.whole())
	if e != f || !reflect.DeepEqual(o, w) {
		t.Fatalf("%s: %v %d, and over all rows %v %d", text, o, e, w, f)
	}
	if e == api.OK {
		for i := range o.Writes {
			if i > 0 && bytes.Compare(o.Writes[i-1].Key, o.Writes[i].Key) >= 0 {
				t.Fatalf("%s: the writes do not rise", text)
			}
			old, there := s[string(o.Writes[i].Key)]
			if o.Writes[i].Del && !there || !o.Writes[i].Del && there && old == string(o.Writes[i].Value) {
				t.Fatalf("%s: a write that changes nothing", text)
			}
		}
		s.write(o.Writes)
		sound(t, s, text)
	}
	return o, e
}

// sound checks that a store is.
func sound(t *testing.T, s store, what string) {
	t.Helper()
	l := s.view([]api.Span{rowkey.CatalogSpan()}).Rows
	c, e := catalog.Load(l)
	if e != api.OK {
		t.Fatalf("%s: the catalog is damaged", what)
	}
	count := len(l)
	for _, x := range c.Tables {
		unique := map[string]int{}
		for _, kv := range s.view([]api.Span{rowkey.IndexSpan(x.Id, 1)}).Rows {
			row, e := rowkey.TakeRow(x, kv)
			if e != api.OK {
				t.Fatalf("%s: a row is damaged", what)
			}
			count++
			for _, ix := range x.Indexes {
				en, _ := rowkey.Entry(x, ix, row)
				if v, there := s[string(en.Key)]; !there || v != "" {
					t.Fatalf("%s: an entry is missing", what)
				}
				count++
				key := fmt.Sprint(ix.Id)
				for _, n := range ix.Columns {
					key += fmt.Sprint(row[n])
					if row[n].Null {
						key += string(kv.Key)
					}
				}
				if unique[key]++; ix.Unique && unique[key] > 1 {
					t.Fatalf("%s: not unique", what)
				}
			}
		}
	}
	if count != len(s) {
		t.Fatalf("%s: %d keys, where %d belong", what, len(s), count)
	}
}

func show(o api.Outcome) string {
	var l []string
	for _, row := range o.Rows {
		var c []string
		for _, v := range row {
			switch {
			case v.Null:
				c = append(c, "-")
			case v.Type == api.TypeText:
				c = append(c, v.Text)
			case v.Type == api.TypeBool:
				c = append(c, []string{"f", "t"}[v.Int])
			default:
				c = append(c, fmt.Sprint(v.Int))
			}
		}
		l = append(l, strings.Join(c, ","))
	}
	return strings.Join(l, " ") + " " + o.Tag
}

// does runs statements, each with what it comes to: rows and tag, or the number of an error.
func does(t *testing.T, s store, l ...string) {
	t.Helper()
	for i := 0; i < len(l); i += 2 {
		o, e := run(t, s, l[i])
		got := strings.TrimSpace(show(o))
		if e != api.OK {
			got = fmt.Sprint(int(e))
			if !reflect.DeepEqual(o, api.Outcome{}) {
				t.Errorf("%s: something beside an error", l[i])
			}
		}
		if got != l[i+1] {
			t.Errorf("%s: %s, want %s", l[i], got, l[i+1])
		}
	}
}

// The examples.
func TestExamples(t *testing.T) {
	s := store{}
	x := stmt(t, "create table t (a int primary key, b text unique)")
	o, e, needs := answer(t, s, x, nil)
	if e != api.OK || o.Tag != "CREATE TABLE" || len(o.Writes) != 2 || !reflect.DeepEqual(needs, [][]api.Span{{rowkey.CatalogSpan()}}) {
		t.Fatalf("%v %d %v", o, e, needs)
	}
	s.write(o.Writes)
	o, e, needs = answer(t, s, stmt(t, "insert into t values (2, 'x'), (1, null)"), nil)
	c, _ := catalog.Load(s.whole().Rows)
	part := func(index int, v api.Value) api.Span {
		p, _ := rowkey.Part(c.Tables[0], index, []api.Value{v}, api.Limit{}, api.Limit{})
		return p
	}
	one, two := api.Value{Type: api.TypeInt, Int: 1}, api.Value{Type: api.TypeInt, Int: 2}
	want := [][]api.Span{{rowkey.CatalogSpan()}, {part(1, one), part(1, two), part(2, api.Value{Type: api.TypeText, Text: "x"})}}
	if e != api.OK || len(o.Writes) != 4 || !reflect.DeepEqual(needs, want) {
		t.Errorf("%v %d %v", o, e, needs)
	}
	s.write(o.Writes)
	o, _, needs = answer(t, s, stmt(t, "select b, a + 1 from t order by 2"), nil)
	if show(o) != "-,2 x,3 SELECT 2" || len(needs) != 2 {
		t.Errorf("%s", show(o))
	}
	if !reflect.DeepEqual(o.Fields, []api.Field{{Name: "b", Type: api.TypeText}, {Name: "?column?", Type: api.TypeInt}}) {
		t.Errorf("%v", o.Fields)
	}
	does(t, s, "insert into t values (1, 'y')", "221", "insert into t values (null, 'y')", "222", "insert into t values (3, 'x')", "221",
		"update t set a = a + 1", "UPDATE 2", "select * from t", "2,- 3,x SELECT 2", "update t set a = a - 1", "UPDATE 2", "select 1 / (a - 2) from t where a <> 2", "-1 SELECT 1", "select count(*), max(b) from t where a > 9", "0,- SELECT 1")
}

// P22.1: errors ahead of all.
func TestErrors(t *testing.T) {
	sel := stmt(t, "select 1")
	kv := func(k string) api.KV { return api.KV{Key: []byte(k)} }
	span := func(a, b string) api.Span { return api.Span{From: []byte(a), To: []byte(b)} }
	wrong := []api.View{{Spans: []api.Span{span("a", "a")}}, {Spans: []api.Span{span("b", "a")}}, {Spans: []api.Span{span("a", "")}}, {Spans: []api.Span{span("a", "c"), span("b", "d")}}, {Spans: []api.Span{span("c", "d"), span("a", "b")}}, {Rows: []api.KV{kv("a")}}, {Spans: []api.Span{span("a", "c")}, Rows: []api.KV{kv("c")}}, {Spans: []api.Span{span("b", "c")}, Rows: []api.KV{kv("a")}}, {Spans: []api.Span{span("a", "c")}, Rows: []api.KV{kv("b"), kv("a")}}, {Spans: []api.Span{span("a", "c")}, Rows: []api.KV{kv("b"), kv("b")}}, {Spans: []api.Span{span("a", "b"), span("c", "d")}, Rows: []api.KV{kv("bb")}}}
	for i, v := range wrong {
		for _, x := range []api.Stmt{sel, {}} {
			if o, e := sqlexec.Run(x, v); e != api.ErrExecView || !reflect.DeepEqual(o, api.Outcome{}) {
				t.Errorf("%d: %d", i, e)
			}
		}
	}
	ok := api.View{Spans: []api.Span{span("", "\x01"), span("\x01", "b"), span("b", "c")}, Rows: []api.KV{kv(""), kv("a"), kv("b")}}
	for _, x := range []api.Stmt{{}, {Kind: 12}, {Kind: -1}, {Kind: api.StmtBegin, Table: "x"}, {Kind: api.StmtCommit}, {Kind: api.StmtRollback}} {
		if _, e := sqlexec.Run(x, ok); e != api.ErrArg {
			t.Errorf("%v: %d", x, e)
		}
	}
	for want, x := range map[api.Errno]api.Stmt{api.ErrSqlForm: {Kind: api.StmtSelect}, api.ErrExecDamage: sel} {
		if o, e := sqlexec.Run(x, api.View{Spans: []api.Span{span("\x01", "\x02")}, Rows: []api.KV{kv("\x01x")}}); e != want || len(o.Needs) != 0 {
			t.Errorf("%d: %d", want, e)
		}
	}
}

// P22.1: creates and drops.
func TestDefine(t *testing.T) {
	s := store{}
	does(t, s, "drop table t", "180", "create table t (a int primary key, b text unique, c int default 7)", "CREATE TABLE", "create table t (a int primary key)", "181", "insert into t (a, b) values (1, 'x'), (2, 'y'), (3, null), (4, null)", "INSERT 0 4",
		"create unique index i on t (c)", "221", "create unique index i on t (c, b)", "CREATE INDEX", "create index j on t (c)", "CREATE INDEX", "create unique index k on t (b)", "CREATE INDEX", "select count(*) from t where c = 7", "4 SELECT 1", "drop index j", "DROP INDEX", "drop index j", "185", "drop index t_b_key", "DROP INDEX",
		"insert into t values (5, 'x', 7)", "221", "drop index i", "DROP INDEX", "drop index k", "DROP INDEX", "insert into t values (5, 'x', 7)", "INSERT 0 1", "create table u (a int primary key, d bool unique)", "CREATE TABLE", "insert into u values (1, true)", "INSERT 0 1", "drop table t", "DROP TABLE", "select * from u", "1,t SELECT 1", "select * from t", "180", "create table t (z text primary key)", "CREATE TABLE", "select * from t", "SELECT 0", "drop table u", "DROP TABLE", "drop table t", "DROP TABLE")
	if len(s) != 1 {
		t.Errorf("%d keys are left", len(s))
	}
	does(t, s, "create table t (a int primary key, b text)", "CREATE TABLE", "insert into t values (1, '"+strings.Repeat("x", 300)+"')", "INSERT 0 1", "create index i on t (b)", "201", "insert into t values (2, '"+strings.Repeat("x", 65000)+"')", "INSERT 0 1", "insert into t values (3, 'y'), (3, 'z')", "221")
}

// P22.1: inserts, updates, deletes.
func TestChanges(t *testing.T) {
	s := store{}
	does(t, s, "create table t (a int primary key, b text unique, c int not null default 5, d bool)", "CREATE TABLE",
		"insert into t (a) values (1), (2), (3)", "INSERT 0 3", "insert into t (a, c) values (4, null)", "222", "insert into t (a, c) values (1 / 0, null)", "191", "insert into t (a, c) values (4, null), (1 / 0, 1)", "222", "insert into t (a, b) values (1, 'x'), (5, '"+strings.Repeat("x", 300)+"')", "201", "insert into t (a, b) values (8, 'x'), (9, 'x')", "221", "select * from t", "1,-,5,- 2,-,5,- 3,-,5,- SELECT 3",
		"update t set b = 'q' where a = 1", "UPDATE 1", "update t set b = 'q'", "221", "update t set b = 'q' where a = 2", "221", "update t set b = 'q' where a = 1", "UPDATE 1", "update t set a = 2 where a = 1", "221", "update t set a = 7 where a = 1", "UPDATE 1", "update t set a = 1, b = null where b = 'q'", "UPDATE 1", "update t set a = 9", "221", "update t set c = null", "222", "update t set c = a / (a - 2), d = true", "191", "update t set c = 1 / (a - 2), a = null where a <> 2", "222", "update t set a = 4 - a", "UPDATE 3", "update t set a = a + 1 where a > 1", "UPDATE 2", "select a from t", "1 3 4 SELECT 3", "update t set b = '"+strings.Repeat("x", 300)+"'", "201", "update t set a = 5 where false", "UPDATE 0",
		"update t set b = 'x' where a = 1", "UPDATE 1", "update t set b = case when a = 1 then null when a = 3 then 'x' end", "UPDATE 3", "select a, b from t", "1,- 3,x 4,- SELECT 3", "delete from t where b = 'x'", "DELETE 1", "delete from t where 1 / (a - 4) = 1", "191", "delete from t where a > 100", "DELETE 0", "delete from t", "DELETE 2", "select count(*) from t", "0 SELECT 1", "insert into t values (1, 'x', 2, null), (2, null, 2, false)", "INSERT 0 2", "update t set d = null", "UPDATE 2")
	o, _ := run(t, s, "update t set d = null")
	if len(o.Writes) != 0 || o.Tag != "UPDATE 2" {
		t.Errorf("nothing changes: %v", o)
	}
}

// P22.1: selects.
func TestSelects(t *testing.T) {
	s := store{}
	does(t, s, "create table t (a int primary key, b int, c text)", "CREATE TABLE", "create table u (d int primary key, e int)", "CREATE TABLE", "create index ue on u (e)", "CREATE INDEX",
		"insert into t values (3, 1, 'x'), (1, 2, 'y'), (2, 1, null), (4, null, 'x')", "INSERT 0 4", "insert into u values (1, 1), (2, 1), (3, 2), (4, null)", "INSERT 0 4",
		"select 1, 'x', null, true", "1,x,-,t SELECT 1", "select 1 where false", "SELECT 0", "select 1 where null", "SELECT 0", "select 1 where 1 / 0 = 1", "191", "select 1 where 1 / 0 = 1 and false", "SELECT 0", "select * from t", "1,2,y 2,1,- 3,1,x 4,-,x SELECT 4", "select a from t order by b desc, a desc", "4 1 3 2 SELECT 4", "select a from t order by c, b", "3 4 1 2 SELECT 4", "select a from t order by -a limit 2 offset 1", "3 2 SELECT 2", "select a from t limit 0", "SELECT 0", "select a from t offset 9", "SELECT 0", "select distinct b from t order by b", "1 2 - SELECT 3", "select distinct c, null from t", "y,- -,- x,- SELECT 3",
		"select a, d from t, u where a = d and b = 1", "2,2 3,3 SELECT 2", "select a, d from t join u on e = b", "1,3 2,1 2,2 3,1 3,2 SELECT 5", "select a, d from t left join u on e = b", "1,3 2,1 2,2 3,1 3,2 4,- SELECT 6", "select a, d from t left join u on e = b and d > 1 where a < 4", "1,3 2,2 3,2 SELECT 3", "select a, d from t left join u on e = b where d is null", "4,- SELECT 1", "select x.d, y.d from u x, u y where x.e = y.e and x.d < y.d", "1,2 SELECT 1", "select a from t left join u on 1 / (d - 1) = 5", "191", "select a from t left join u on 1 / (d - 1) = 5 where a = 9", "SELECT 0", "select a from t join u on 1 / (d - 1) = 0 and d > 1 and a = 1", "1 1 SELECT 2", "select 1 / 0 from t where a = 9", "SELECT 0", "select a from t where 1 / (a - 1) > -5 and a > 1", "2 3 4 SELECT 3",
		"select b, count(*), sum(a), min(c), max(c), avg(a) from t group by b", "2,1,1,y,y,1 1,2,5,x,x,2 -,1,4,x,x,4 SELECT 3", "select count(*), count(b), count(distinct b), sum(b) from t", "4,3,2,4 SELECT 1", "select b from t group by b having count(*) > 1", "1 SELECT 1", "select count(*) from t having count(*) > 9", "SELECT 0", "select sum(a) from t where false", "- SELECT 1", "select b from t where false group by b", "SELECT 0", "select b, 1 / (b - 1) from t group by b having b <> 1", "2,1 SELECT 1", "select 1 / (b - 1), sum(9223372036854775807) from t group by b", "190", "select sum(1 / (a - 1)) from t group by b", "191", "select b + 1, count(*) from t group by b + 1 order by count(*) desc, 1", "2,2 3,1 -,1 SELECT 3", "select c from t group by c order by max(a) desc", "x - y SELECT 3", "select a from t having false", "1 2 3 4 SELECT 4", "select count(*) + 1 as n from t group by b order by n", "2 2 3 SELECT 3",
		"select count(*) from t, t as x, t as y, u", "256 SELECT 1", "select d from u where e = 1 and d > 1", "2 SELECT 1", "select d from u where e >= 1 and e < 2", "1 2 SELECT 2", "select d from u where d = null", "SELECT 0", "select d from u where e = 1 and 1 = 1 order by d desc", "2 1 SELECT 2", "select d from u where 3 <= d", "3 4 SELECT 2", "select d from u where d > 3 and d < 2", "SELECT 0", "select length(null), coalesce(null)", "-,- SELECT 1")
	late := " where t.a = -9223372036854775807 - 2"
	does(t, s, "select 1 from t join u on 1 / 0 = 1"+late, "191", "select 1 from t left join u on 1 / 0 = 1"+late, "191", "select 1 from t, u"+late+" and 1 / 0 = 1", "190", "select 1 from t join u on -9223372036854775807 - 2 = d left join u as x on 1 / 0 = 1", "190", "select 1 from t left join u on 1 / 0 = 1 join u as x on -9223372036854775807 - 2 = x.d", "191")
	o, _ := run(t, s, "select null as x, min(null)")
	if !reflect.DeepEqual(o.Fields, []api.Field{{Name: "x", Type: api.TypeText}, {Name: "min", Type: api.TypeText}}) || o.Rows[0][0] != (api.Value{Type: api.TypeText, Null: true}) {
		t.Errorf("%v", o)
	}
}

// P22.1: too many rows.
func TestMany(t *testing.T) {
	s := store{}
	does(t, s, "create table t (a int primary key)", "CREATE TABLE")
	var l []string
	for i := range 256 {
		l = append(l, fmt.Sprintf("(%d)", i))
	}
	does(t, s, "insert into t values "+strings.Join(l, ", "), "INSERT 0 256", "select count(*) from t, t as x", "65536 SELECT 1")
	does(t, s, "create table u (b int primary key)", "CREATE TABLE", "insert into u values (0), (1)", "INSERT 0 2", "select count(*) from t, t as x, u where b = 0 or t.a = 300", "65536 SELECT 1")
	x := stmt(t, "select count(*) from t, t as x, u where b = 0 or t.a = 5 and x.a = 5 or 1 / (t.a - 7) = 9 and b = 0")
	if _, e := sqlexec.Run(x, s.whole()); e != api.ErrExecMany {
		t.Errorf("one more: %d", e)
	}
	x = stmt(t, "select 1 from t, t as x, t as y, t as z")
	if _, e := sqlexec.Run(x, s.whole()); e != api.ErrExecMany {
		t.Errorf("many more: %d", e)
	}
}

// P22.2: what is needed, and nothing else.
func TestNeeds(t *testing.T) {
	s := store{}
	does(t, s, "create table t (a int primary key, b int, c int unique)", "CREATE TABLE", "create table u (d int primary key, e int)", "CREATE TABLE", "create index ue on u (e)", "CREATE INDEX", "insert into t values (1, 2, 3), (2, 2, 4), (3, 5, null)", "INSERT 0 3", "insert into u values (7, 2), (8, 5), (9, 2)", "INSERT 0 3")
	c, _ := catalog.Load(s.view([]api.Span{rowkey.CatalogSpan()}).Rows)
	tt, u := c.Tables[0], c.Tables[1]
	n := func(i int64) api.Value { return api.Value{Type: api.TypeInt, Int: i} }
	part := func(x api.Table, index int, l ...api.Value) api.Span {
		p, _ := rowkey.Part(x, index, l, api.Limit{}, api.Limit{})
		return p
	}
	for text, want := range map[string][][]api.Span{
		"select * from t where a = 1": {{part(tt, 1, n(1))}}, "select * from t": {{part(tt, 1)}}, "select * from t where c = 3": {{part(tt, 2, n(3))}, {part(tt, 1, n(1))}}, "select 1": nil, "select * from t, u where a = 1 and d = b": {{part(tt, 1, n(1))}, {part(u, 1, n(2))}}, "select * from t join u on e = b": {{part(tt, 1)}, {part(u, 2, n(2)), part(u, 2, n(5))}, {part(u, 1, n(7)), part(u, 1, n(8)), part(u, 1, n(9))}},
		"insert into t values (1, 1 / 0, 1)": nil, "insert into t values (5, 1, 2), (4, 1, null)": {{part(tt, 1, n(4)), part(tt, 1, n(5)), part(tt, 2, n(2))}}, "update t set a = 9 where a = 1": {{part(tt, 1, n(1))}, {part(tt, 1, n(9)), part(tt, 2, n(3))}}, "delete from u where d = 7": {{part(u, 1, n(7))}}, "drop table u": {{rowkey.TableSpan(u.Id)}}, "drop index ue": {{rowkey.IndexSpan(u.Id, 2)}}, "create index x on t (b)": {{rowkey.IndexSpan(tt.Id, 1)}}, "create table v (a int primary key)": nil, "drop table v": nil, "select * from v": nil, "select * from t where a > 5 and a < 3": nil,
	} {
		_, _, needs := answer(t, s, stmt(t, text), nil)
		want = append([][]api.Span{{rowkey.CatalogSpan()}}, want...)
		if !reflect.DeepEqual(needs, want) {
			t.Errorf("%s: %v, want %v", text, needs, want)
		}
	}
	cut := []api.Span{{From: []byte{1}, To: codec.KeyInt(0)}, {From: codec.KeyInt(0), To: []byte{255}}}
	cut[0].To = append([]byte{1}, cut[0].To...)
	cut[1].From = cut[0].To
	if o, e := sqlexec.Run(stmt(t, "select count(*) from t"), s.view(cut)); e != api.OK || show(o) != "3 SELECT 1" {
		t.Errorf("spans side by side: %s %d", show(o), e)
	}
}

func randomStmt(r *rand.Rand) string {
	cols := []string{"a", "b", "c"}
	term := func(p string) string {
		return []string{p + cols[r.Intn(3)], p + cols[r.Intn(3)], fmt.Sprint(r.Intn(7)), "null", "1 / (" + p + "b - 1)"}[r.Intn(5)]
	}
	cond := func(p, q string) string {
		var l []string
		for range 1 + r.Intn(2) {
			l = append(l, term(p)+" "+[]string{"=", "=", "<", ">=", "<>"}[r.Intn(5)]+" "+term(q))
		}
		return strings.Join(l, []string{" and ", " or "}[r.Intn(2)])
	}
	name := []string{"t", "u"}[r.Intn(2)]
	value := func() string { return []string{fmt.Sprint(r.Intn(7)), fmt.Sprint(r.Intn(7)), "null"}[r.Intn(3)] }
	switch r.Intn(9) {
	case 0, 1, 2:
		return "insert into " + name + " values (" + fmt.Sprint(r.Intn(9)) + ", " + value() + ", " + value() + "), (" + fmt.Sprint(r.Intn(9)) + ", " + value() + ", " + value() + ")"
	case 3:
		return "update " + name + " set " + cols[r.Intn(3)] + " = " + term("") + " where " + cond("", "")
	case 4:
		return "delete from " + name + " where " + cond("", "")
	case 5:
		return []string{"create index i on t (b, c)", "drop index i", "create unique index j on u (c)", "drop index j", "create index k on u (b)", "drop index k"}[r.Intn(6)]
	case 6:
		return "select x.b, count(*), max(y.c) from t x left join u y on " + cond("x.", "y.") + " where " + cond("x.", "x.") + " group by x.b order by 2, 1"
	}
	return "select * from t x " + []string{"join", "left join"}[r.Intn(2)] + " u y on " + cond("x.", "y.") + " where " + cond("x.", "y.")
}

// P22.4, P22.5, P22.6: whatever the view has, the answer is the same; and what is written is sound.
func TestTheorem(t *testing.T) {
	r := rand.New(rand.NewSource(224))
	for range 40 {
		s := store{}
		does(t, s, "create table t (a int primary key, b int, c int unique)", "CREATE TABLE", "create table u (a int primary key, b int, c int)", "CREATE TABLE", "create index ub on u (b)", "CREATE INDEX")
		for range 60 {
			text := randomStmt(r)
			var spans []api.Span
			keys := slices.Sorted(maps.Keys(s))
			for range r.Intn(4) {
				a, b := keys[r.Intn(len(keys))], keys[r.Intn(len(keys))]
				if a < b {
					spans = join(spans, []api.Span{{From: []byte(a), To: []byte(b + "\x00")}})
				}
			}
			o, e, _ := answer(t, s, stmt(t, text), spans)
			w, f := sqlexec.Run(stmt(t, text), s.whole())
			if e != f || !reflect.DeepEqual(o, w) {
				t.Fatalf("%s: %v %d, want %v %d", text, o, e, w, f)
			}
			run(t, s, text)
		}
	}
}

// P22.4: an index changes nothing but the way.
func TestIndexesChangeNothing(t *testing.T) {
	r := rand.New(rand.NewSource(2240))
	for range 30 {
		plain, indexed := store{}, store{}
		for _, s := range []store{plain, indexed} {
			does(t, s, "create table t (a int primary key, b int, c int)", "CREATE TABLE", "create table u (a int primary key, b int, c int)", "CREATE TABLE")
		}
		does(t, indexed, "create index i1 on t (b)", "CREATE INDEX", "create index i2 on t (c, b)", "CREATE INDEX", "create index i3 on u (b, a)", "CREATE INDEX", "create index i4 on u (c)", "CREATE INDEX")
		for range 40 {
			text := randomStmt(r)
			if strings.Contains(text, "index") {
				continue
			}
			o, e := run(t, plain, text)
			w, f := run(t, indexed, text)
			if e != f || show(o) != show(w) {
				t.Fatalf("%s: %s %d, %s %d", text, show(o), e, show(w), f)
			}
		}
	}
}

// P22.3: rows that are none.
func TestDamage(t *testing.T) {
	r := rand.New(rand.NewSource(223))
	s := store{}
	does(t, s, "create table t (a int primary key, b int, c int unique)", "CREATE TABLE", "create table u (a int primary key, b int, c int)", "CREATE TABLE", "create index ub on u (b)", "CREATE INDEX")
	for range 30 {
		run(t, s, randomStmt(r))
	}
	for range 4000 {
		x := maps.Clone(s)
		keys := slices.Sorted(maps.Keys(x))
		k := keys[r.Intn(len(keys))]
		switch r.Intn(3) {
		case 0:
			delete(x, k)
		case 1:
			b := []byte(k)
			b[r.Intn(len(b))] ^= byte(1 + r.Intn(255))
			x[string(b)] = x[k]
		case 2:
			x[k] += string([]byte{byte(r.Intn(256))})
		}
		o, e := sqlexec.Run(stmt(t, randomStmt(r)), x.whole())
		if e != api.OK && !reflect.DeepEqual(o, api.Outcome{}) {
			t.Fatal("something beside an error")
		}
	}
}

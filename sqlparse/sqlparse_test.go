package sqlparse_test

import (
	"fmt"
	"math/rand"
	"reflect"
	"slices"
	"strings"
	"testing"

	"cormorant/api"
	"cormorant/sqlparse"
)

func parse(t *testing.T, text string) []api.Stmt {
	t.Helper()
	l, f := sqlparse.Parse(text)
	if f != (api.Fault{}) {
		t.Fatalf("%s: %v", text, f)
	}
	return l
}

func show(t *testing.T, s api.Stmt) string {
	t.Helper()
	text, e := sqlparse.Show(s)
	if e != api.OK {
		t.Fatalf("Show: %d", e)
	}
	return text
}

func col(name string) api.Expr { return api.Expr{Kind: api.ExprCol, Name: name} }

func num(n int64) api.Expr {
	return api.Expr{Kind: api.ExprValue, Value: api.Value{Type: api.TypeInt, Int: n}}
}

func text(s string) api.Expr {
	return api.Expr{Kind: api.ExprValue, Value: api.Value{Type: api.TypeText, Text: s}}
}

func null() api.Expr {
	return api.Expr{Kind: api.ExprValue, Value: api.Value{Type: api.TypeNone, Null: true}}
}

func boolean(n int64) api.Expr {
	return api.Expr{Kind: api.ExprValue, Value: api.Value{Type: api.TypeBool, Int: n}}
}

func of(kind int, args ...api.Expr) api.Expr { return api.Expr{Kind: kind, Args: args} }

func agg(name string, distinct bool, x api.Expr) api.Expr {
	return api.Expr{Kind: api.ExprAgg, Name: name, Distinct: distinct, Args: []api.Expr{x}}
}

func selects(s api.Select) api.Stmt { return api.Stmt{Kind: api.StmtSelect, Select: s} }

func item(x api.Expr) api.Item { return api.Item{Expr: x} }

// P17.1: what texts are.
func TestStatements(t *testing.T) {
	one := []api.Item{item(num(1))}
	cases := map[string]api.Stmt{
		"begin": {Kind: api.StmtBegin}, "commit": {Kind: api.StmtCommit}, "rollback": {Kind: api.StmtRollback},
		"drop table t": {Kind: api.StmtDropTable, Table: "t"}, "drop index i": {Kind: api.StmtDropIndex, Index: api.IndexDef{Name: "i"}},
		"select 1": selects(api.Select{Items: one, Limit: -1}),
		"select distinct *, t.*, 1 as x from t, u v cross join w as x join y on 1 inner join z on 1 left join q r on 1 where 1 group by 1, 1 having 1 order by 1, 1 asc, 1 desc limit 5 offset 6": selects(api.Select{
			Distinct: true, Items: []api.Item{{Star: true}, {Star: true, Table: "t"}, {Expr: num(1), As: "x"}},
			From:  []api.Source{{Table: "t"}, {Table: "u", As: "v"}, {Table: "w", As: "x"}, {Table: "y", On: num(1)}, {Table: "z", On: num(1)}, {Table: "q", As: "r", Left: true, On: num(1)}},
			Where: num(1), Group: []api.Expr{num(1), num(1)}, Having: num(1), Order: []api.Order{{Expr: num(1)}, {Expr: num(1)}, {Expr: num(1), Desc: true}}, Limit: 5, Offset: 6}),
		"select 1 limit 0 offset 2147483647": selects(api.Select{Items: one, Offset: 2147483647}),
		"insert into t values (1, 'x'), (2)": {Kind: api.StmtInsert, Table: "t", Rows: [][]api.Expr{{num(1), text("x")}, {num(2)}}},
		"insert into t (a, b) values (null)": {Kind: api.StmtInsert, Table: "t", Columns: []string{"a", "b"}, Rows: [][]api.Expr{{null()}}},
		"update t set a = 1, b = a where true": {Kind: api.StmtUpdate, Table: "t", Sets: []api.Set{{Column: "a", Expr: num(1)}, {Column: "b", Expr: col("a")}},
			Where: boolean(1)},
		"delete from t":             {Kind: api.StmtDelete, Table: "t"},
		"delete from t where false": {Kind: api.StmtDelete, Table: "t", Where: boolean(0)},
		"create table t (a int, b bigint not null, c integer primary key, d bool unique, e boolean default true, f text default 'x' unique primary key not null, g int default - 3, h int default 3, i int default null, primary key (a, b))": {
			Kind: api.StmtCreateTable, Table: "t", Key: []string{"a", "b"}, Cols: []api.ColumnDef{{Name: "a", Type: api.TypeInt}, {Name: "b", Type: api.TypeInt, NotNull: true}, {Name: "c", Type: api.TypeInt, Key: true}, {Name: "d", Type: api.TypeBool, Unique: true}, {Name: "e", Type: api.TypeBool, Default: boolean(1)},
				{Name: "f", Type: api.TypeText, Default: text("x"), Unique: true, Key: true, NotNull: true}, {Name: "g", Type: api.TypeInt, Default: of(api.ExprNeg, num(3))}, {Name: "h", Type: api.TypeInt, Default: num(3)}, {Name: "i", Type: api.TypeInt, Default: null()}}},
		"create table t (primary key (a), a int)": {Kind: api.StmtCreateTable, Table: "t", Key: []string{"a"}, Cols: []api.ColumnDef{{Name: "a", Type: api.TypeInt}}},
		"create index i on t (a)":                 {Kind: api.StmtCreateIndex, Index: api.IndexDef{Name: "i", Table: "t", Columns: []string{"a"}}},
		"create unique index i on t (a, b)":       {Kind: api.StmtCreateIndex, Index: api.IndexDef{Name: "i", Table: "t", Columns: []string{"a", "b"}, Unique: true}},
	}
	for s, want := range cases {
		if l := parse(t, s); len(l) != 1 || !reflect.DeepEqual(l[0], want) {
			t.Errorf("%s: %+v", s, l)
		}
	}
	for s, n := range map[string]int{"": 0, ";;": 0, " -- x": 0, ";begin;;commit": 2, "begin;": 1, "begin\n;commit": 2} {
		if l := parse(t, s); len(l) != n {
			t.Errorf("%q: %d statements", s, len(l))
		}
	}
}

// P17.1: what expressions are.
func TestExpressions(t *testing.T) {
	a, b, c := col("a"), col("b"), col("c")
	cases := map[string]api.Expr{
		"a or b and c or a": of(api.ExprOr, of(api.ExprOr, a, of(api.ExprAnd, b, c)), a), "not not a and b": of(api.ExprAnd, of(api.ExprNot, of(api.ExprNot, a)), b),
		"not a = b": of(api.ExprNot, of(api.ExprEq, a, b)), "a <> b": of(api.ExprNe, a, b), "a != b": of(api.ExprNe, a, b), "a < b": of(api.ExprLt, a, b), "a <= b": of(api.ExprLe, a, b), "a > b": of(api.ExprGt, a, b), "a >= b": of(api.ExprGe, a, b),
		"a is null": of(api.ExprIsNull, a), "a is not null": of(api.ExprIsNotNull, a), "a in (b)": of(api.ExprIn, a, b), "a not in (b, c or a)": of(api.ExprNot, of(api.ExprIn, a, b, of(api.ExprOr, c, a))),
		"a between b and c": of(api.ExprBetween, a, b, c), "a not between b and c and a": of(api.ExprAnd, of(api.ExprNot, of(api.ExprBetween, a, b, c)), a), "a like b": of(api.ExprLike, a, b), "a not like b": of(api.ExprNot, of(api.ExprLike, a, b)),
		"a - b - c": of(api.ExprSub, of(api.ExprSub, a, b), c), "a + b * c": of(api.ExprAdd, a, of(api.ExprMul, b, c)), "a || b % c / a": of(api.ExprConcat, a, of(api.ExprDiv, of(api.ExprMod, b, c), a)), "- - a": of(api.ExprNeg, of(api.ExprNeg, a)), "-a * b": of(api.ExprMul, of(api.ExprNeg, a), b), "(a)": a,
		"t.a": {Kind: api.ExprCol, Table: "t", Name: "a"}, "count": col("count"), "length.count": {Kind: api.ExprCol, Table: "length", Name: "count"}, "length(a)": of(api.ExprLength, a), "coalesce(a, b)": of(api.ExprCoalesce, a, b), "coalesce (a)": of(api.ExprCoalesce, a),
		"count(*)": agg("count", false, of(api.ExprStar)), "COUNT(distinct a)": agg("count", true, a), "sum(a)": agg("sum", false, a), "min(distinct a)": agg("min", true, a), "max(a)": agg("max", false, a), `"avg"(a)`: agg("avg", false, a),
		"case when a then b end": of(api.ExprCase, a, b), "case when a then b when b then c else a end": of(api.ExprCase, a, b, b, c, a), "null": null(), "true": boolean(1), "false": boolean(0), "'it''s'": text("it's"), "''": text(""), "007": num(7), "9223372036854775807": num(1<<63 - 1),
		"000000000000000000000000009223372036854775807": num(1<<63 - 1), `"A b""c"`: col(`A b"c`), "Abc_9": col("abc_9"), "_": col("_"), `"select"`: col("select"), "a+-b": of(api.ExprAdd, a, of(api.ExprNeg, b)), "a<-b": of(api.ExprLt, a, of(api.ExprNeg, b)),
		"a--b\n+c": of(api.ExprAdd, a, c), "a\t\n\f\r +b": of(api.ExprAdd, a, b), "'\n--x'": text("\n--x"),
	}
	for s, want := range cases {
		l := parse(t, "select "+s)
		if len(l) != 1 || len(l[0].Select.Items) != 1 || !reflect.DeepEqual(l[0].Select.Items[0], item(want)) {
			t.Errorf("%s: %+v", s, l)
		}
	}
}

// P17.1: errors, and where they are.
func TestFaults(t *testing.T) {
	long := strings.Repeat("n", 63)
	cases := []struct {
		text string
		code api.Errno
		at   int
	}{
		{"select 1 +", api.ErrSqlSyntax, 10}, {"select 1 ||", api.ErrSqlSyntax, 11}, {"select 1 <=", api.ErrSqlSyntax, 11}, {"select 1 !=", api.ErrSqlSyntax, 11}, {"select 1 <", api.ErrSqlSyntax, 10}, {"select f(1)", api.ErrSqlSyntax, 8}, {"select 1x", api.ErrSqlNumber, 7}, {"select 'a", api.ErrSqlQuote, 7}, {"select #", api.ErrSqlRune, 7}, {"select a from t where b = c = d", api.ErrSqlSyntax, 28},
		{"select 1_", api.ErrSqlNumber, 7}, {"select 9223372036854775808", api.ErrSqlNumber, 7}, {"select 99999999999999999999999", api.ErrSqlNumber, 7}, {"select 1.5", api.ErrSqlSyntax, 8}, {`select "a`, api.ErrSqlQuote, 7}, {`select ""`, api.ErrSqlQuote, 7}, {"select 'a\x00'", api.ErrSqlQuote, 7}, {"select \"a\x00\"", api.ErrSqlQuote, 7},
		{"select " + long + "n", api.ErrSqlQuote, 7}, {`select "` + long + `n"`, api.ErrSqlQuote, 7}, {"select " + long, 0, 0}, {`select "` + long[1:] + `"""`, 0, 0}, {"select !", api.ErrSqlRune, 7}, {"select |", api.ErrSqlRune, 7}, {"select \x00", api.ErrSqlRune, 7}, {"select \v1", api.ErrSqlRune, 7}, {"select \xff", api.ErrSqlRune, 7}, {"select [", api.ErrSqlRune, 7},
		{"select + #", api.ErrSqlRune, 9}, {"# 1x", api.ErrSqlRune, 0}, {"x 1x #", api.ErrSqlNumber, 2}, {"x", api.ErrSqlSyntax, 0}, {"begin begin", api.ErrSqlSyntax, 6}, {"begin; x", api.ErrSqlSyntax, 7}, {"select", api.ErrSqlSyntax, 6}, {"select  ", api.ErrSqlSyntax, 8}, {"select from t", api.ErrSqlSyntax, 7},
		{"select a b", api.ErrSqlSyntax, 9}, {"select a as", api.ErrSqlSyntax, 11}, {"select a.* as b", api.ErrSqlSyntax, 11}, {"select a.", api.ErrSqlSyntax, 9}, {"select a.from", api.ErrSqlSyntax, 9}, {"select * *", api.ErrSqlSyntax, 9}, {"select count(a.*)", api.ErrSqlSyntax, 15}, {"select a from t left u", api.ErrSqlSyntax, 21}, {"select a from t join u", api.ErrSqlSyntax, 22},
		{"select a from t, u on 1", api.ErrSqlSyntax, 19}, {"select a from t cross u", api.ErrSqlSyntax, 22}, {"select a from t on 1", api.ErrSqlSyntax, 16}, {"select a from t as as", api.ErrSqlSyntax, 19}, {"select a from t u v", api.ErrSqlSyntax, 18}, {"select a group a", api.ErrSqlSyntax, 15}, {"select a order by a asc desc", api.ErrSqlSyntax, 24},
		{"select a limit -1", api.ErrSqlSyntax, 15}, {"select a limit 2147483648", api.ErrSqlSyntax, 15}, {"select a offset 2147483648", api.ErrSqlSyntax, 16}, {"select a limit b", api.ErrSqlSyntax, 15}, {"select a offset 1 limit 1", api.ErrSqlSyntax, 18}, {"select a having 1 group by a", api.ErrSqlSyntax, 18},
		{"select a not b", api.ErrSqlSyntax, 13}, {"select a is b", api.ErrSqlSyntax, 12}, {"select a = not b", api.ErrSqlSyntax, 11}, {"select a between b or c", api.ErrSqlSyntax, 19}, {"select a in b", api.ErrSqlSyntax, 12}, {"select a in ()", api.ErrSqlSyntax, 13}, {"select a is null is null", api.ErrSqlSyntax, 17}, {"select (a", api.ErrSqlSyntax, 9}, {"select a)", api.ErrSqlSyntax, 8}, {"select ()", api.ErrSqlSyntax, 8},
		{"select case a when 1 then 2 end", api.ErrSqlSyntax, 12}, {"select case end", api.ErrSqlSyntax, 12}, {"select case when 1 end", api.ErrSqlSyntax, 19}, {"select case when 1 then 2 else 3", api.ErrSqlSyntax, 32}, {"select sum(*)", api.ErrSqlSyntax, 11}, {"select count(distinct *)", api.ErrSqlSyntax, 22}, {"select length(distinct a)", api.ErrSqlSyntax, 14}, {"select length(a, b)", api.ErrSqlSyntax, 15}, {"select coalesce()", api.ErrSqlSyntax, 16}, {"select a.count(a)", api.ErrSqlSyntax, 14},
		{"insert t", api.ErrSqlSyntax, 7}, {"insert into t (1) values (1)", api.ErrSqlSyntax, 15}, {"insert into t () values (1)", api.ErrSqlSyntax, 15}, {"insert into t values ()", api.ErrSqlSyntax, 22}, {"insert into t values (1),", api.ErrSqlSyntax, 25}, {"insert into t values 1", api.ErrSqlSyntax, 21}, {"update t set a", api.ErrSqlSyntax, 14}, {"update t set a = 1 b", api.ErrSqlSyntax, 19}, {"update t where a", api.ErrSqlSyntax, 9}, {"delete t", api.ErrSqlSyntax, 7}, {"delete from t u", api.ErrSqlSyntax, 14},
		{"create t", api.ErrSqlSyntax, 7}, {"create unique table t (a int)", api.ErrSqlSyntax, 14}, {"create table t ()", api.ErrSqlSyntax, 16}, {"create table t (primary key (a))", api.ErrSqlSyntax, 31}, {"create table t (primary key (a), primary key (a))", api.ErrSqlSyntax, 33}, {"create table t (a)", api.ErrSqlSyntax, 17}, {"create table t (a varchar)", api.ErrSqlSyntax, 18}, {"create table t (a int int)", api.ErrSqlSyntax, 22}, {"create table t (a int not null not null)", api.ErrSqlSyntax, 31},
		{"create table t (a int unique unique)", api.ErrSqlSyntax, 29}, {"create table t (a int primary key primary key)", api.ErrSqlSyntax, 34}, {"create table t (a int default 1 default 2)", api.ErrSqlSyntax, 32}, {"create table t (a int default 1 + 1)", api.ErrSqlSyntax, 32}, {"create table t (a int default - 'x')", api.ErrSqlSyntax, 32}, {"create table t (a int default b)", api.ErrSqlSyntax, 30}, {"create table t (a int,)", api.ErrSqlSyntax, 22}, {"create table t (a int", api.ErrSqlSyntax, 21}, {"create index on t (a)", api.ErrSqlSyntax, 13}, {"create index i on t", api.ErrSqlSyntax, 19}, {"drop t", api.ErrSqlSyntax, 5}, {"drop table", api.ErrSqlSyntax, 10},
	}
	for _, c := range cases {
		l, f := sqlparse.Parse(c.text)
		if f != (api.Fault{Code: c.code, At: c.at}) || c.code != api.OK && l != nil {
			t.Errorf("%s: %v, want %d at %d", c.text, f, c.code, c.at)
		}
	}
}

// P17.1: limits.
func TestLimits(t *testing.T) {
	check := func(text string, want api.Fault) {
		t.Helper()
		if l, f := sqlparse.Parse(text); f != want || f.Code != api.OK && l != nil {
			t.Errorf("%.40s: %v, want %v", text, f, want)
		}
	}
	check(strings.Repeat(" ", api.MaxSql), api.Fault{})
	check(strings.Repeat("#", api.MaxSql+1), api.Fault{Code: api.ErrSqlLong, At: api.MaxSql})
	check("select "+strings.Repeat("- ", 63)+"a", api.Fault{})
	check("select "+strings.Repeat("- ", 64)+"a", api.Fault{Code: api.ErrSqlNest})
	check("select "+strings.Repeat("- ", 64)+"a; x", api.Fault{Code: api.ErrSqlSyntax, At: 138})
	check("select "+strings.Repeat("- ", 62)+"count(*)", api.Fault{})
	check("select "+strings.Repeat("- ", 63)+"count(*)", api.Fault{Code: api.ErrSqlNest})
	check("select a"+strings.Repeat(", a", 1998), api.Fault{})
	check("select a"+strings.Repeat(", a", 1999), api.Fault{Code: api.ErrSqlParts})
	check("select a"+strings.Repeat(", a", 1997)+"; begin", api.Fault{})
	check("select a"+strings.Repeat(", a", 1998)+"; begin", api.Fault{Code: api.ErrSqlParts})
	check("select a"+strings.Repeat(", a", 1999)+"; select "+strings.Repeat("- ", 64)+"a", api.Fault{Code: api.ErrSqlNest})
	check("select "+strings.Repeat("(", 64)+"a"+strings.Repeat(")", 64), api.Fault{})
	check("select "+strings.Repeat("(", 6000), api.Fault{Code: api.ErrSqlSyntax, At: 6007})
}

// P17.2
func TestRight(t *testing.T) {
	base := func() api.Stmt {
		return parse(t, "select a as b, t.*, count(*) from t, u v left join w on 1 where 'x'")[0]
	}
	if e := sqlparse.Right(base()); e != api.OK {
		t.Fatalf("Right: %d", e)
	}
	q := func(f func(s *api.Select)) api.Stmt {
		s := base()
		f(&s.Select)
		return s
	}
	x := func(e api.Expr) api.Stmt { return selects(api.Select{Items: []api.Item{item(e)}, Limit: -1}) }
	long := strings.Repeat("n", 64)
	table := func(f func(s *api.Stmt)) api.Stmt {
		s := parse(t, "create table t (a int default -1, primary key (a))")[0]
		f(&s)
		return s
	}
	slot := col("a")
	slot.Slot = 1
	typed := num(1)
	typed.Type = api.TypeInt
	valued := col("a")
	valued.Value.Int = 1
	named := of(api.ExprNeg, num(1))
	named.Name = "a"
	wrong := []api.Stmt{
		{}, {Kind: 12}, {Kind: api.StmtBegin, Table: "t"}, {Kind: api.StmtSelect}, {Kind: api.StmtDropTable}, {Kind: api.StmtDropTable, Table: long}, {Kind: api.StmtDropTable, Table: "a\x00"}, {Kind: api.StmtDropTable, Table: "\x00a"}, {Kind: api.StmtDropIndex, Index: api.IndexDef{Name: "i", Table: "t"}}, {Kind: api.StmtDropIndex, Index: api.IndexDef{Name: "i", Unique: true}},
		q(func(s *api.Select) { s.Items = nil }), q(func(s *api.Select) { s.Items[0].As = long }), q(func(s *api.Select) { s.Items[0].Table = "t" }), q(func(s *api.Select) { s.Items[1].As = "x" }), q(func(s *api.Select) { s.Items[1].Expr = num(1) }), q(func(s *api.Select) { s.Items[0].Expr = api.Expr{} }), q(func(s *api.Select) { s.Items[2].Expr.Distinct = true }), q(func(s *api.Select) { s.Items[2].Expr.Name = "sum" }), q(func(s *api.Select) { s.Items[2].Expr.Args[0].Args = []api.Expr{num(1)} }),
		q(func(s *api.Select) { s.From[0].On = num(1) }), q(func(s *api.Select) { s.From[0].Left = true }), q(func(s *api.Select) { s.From[1].Left = true }), q(func(s *api.Select) { s.From[0].Table = "" }), q(func(s *api.Select) { s.Limit = -2 }), q(func(s *api.Select) { s.Limit = 2147483648 }), q(func(s *api.Select) { s.Offset = -1 }), q(func(s *api.Select) { s.Offset = 2147483648 }), q(func(s *api.Select) { s.Where = api.Expr{Name: "a"} }), q(func(s *api.Select) { s.Group = []api.Expr{{}} }), q(func(s *api.Select) { s.Order = []api.Order{{}} }),
		x(num(-1)), x(boolean(2)), x(api.Expr{Kind: api.ExprValue}), x(api.Expr{Kind: api.ExprValue, Value: api.Value{Type: api.TypeNone}}), x(api.Expr{Kind: api.ExprValue, Value: api.Value{Type: api.TypeInt, Null: true}}), x(api.Expr{Kind: api.ExprValue, Value: api.Value{Type: api.TypeInt, Text: "x"}}), x(text("a\x00")), x(api.Expr{Kind: api.ExprValue, Value: api.Value{Type: api.TypeText, Int: 1}}), x(of(api.ExprValue, num(1))), x(slot), x(typed), x(valued), x(named), x(col("")), x(api.Expr{Kind: api.ExprCol, Name: "a", Table: long}), x(of(api.ExprStar)), x(of(api.ExprNeg, of(api.ExprStar))),
		x(of(api.ExprNeg)), x(of(api.ExprNeg, num(1), num(1))), x(of(api.ExprAdd, num(1))), x(of(api.ExprIn, num(1))), x(of(api.ExprBetween, num(1), num(1))), x(of(api.ExprCase, num(1))), x(of(api.ExprCoalesce)), x(agg("sum", false, of(api.ExprStar))), x(agg("avg2", false, num(1))), x(api.Expr{Kind: api.ExprAgg, Name: "sum"}), x(api.Expr{Kind: 29}), x(api.Expr{Kind: -1}),
		{Kind: api.StmtInsert, Table: "t"}, {Kind: api.StmtInsert, Table: "t", Rows: [][]api.Expr{{}}}, {Kind: api.StmtInsert, Table: "t", Columns: []string{""}, Rows: [][]api.Expr{{num(1)}}}, {Kind: api.StmtUpdate, Table: "t"}, {Kind: api.StmtUpdate, Table: "t", Sets: []api.Set{{Column: "", Expr: num(1)}}}, {Kind: api.StmtDelete, Table: "t", Where: api.Expr{Slot: 1}}, {Kind: api.StmtCreateIndex, Index: api.IndexDef{Name: "i", Table: "t"}},
		table(func(s *api.Stmt) { s.Cols = nil }), table(func(s *api.Stmt) { s.Cols[0].Type = 4 }), table(func(s *api.Stmt) { s.Cols[0].Type = 0 }), table(func(s *api.Stmt) { s.Cols[0].Default = of(api.ExprNeg, text("x")) }), table(func(s *api.Stmt) { s.Cols[0].Default = col("a") }), table(func(s *api.Stmt) { s.Key = []string{""} }), table(func(s *api.Stmt) { s.Where = num(1) }), table(func(s *api.Stmt) { s.Select.Limit = -1 }),
	}
	for i, s := range wrong {
		if e := sqlparse.Right(s); e != api.ErrSqlForm {
			t.Errorf("%d: %d", i, e)
		}
		if text, e := sqlparse.Show(s); text != "" || e != api.ErrSqlForm {
			t.Errorf("%d: %s %d", i, text, e)
		}
	}
	if e := sqlparse.Right(q(func(s *api.Select) { s.Limit, s.Offset = 2147483647, 2147483647 })); e != api.OK {
		t.Errorf("the greatest limits: %d", e)
	}
	deep := col("a")
	for range 63 {
		deep = of(api.ExprNot, deep)
	}
	if e := sqlparse.Right(x(deep)); e != api.OK {
		t.Errorf("64 levels: %d", e)
	}
	if e := sqlparse.Right(x(of(api.ExprNot, deep))); e != api.ErrSqlNest {
		t.Errorf("65 levels: %d", e)
	}
	if e := sqlparse.Right(x(of(api.ExprCoalesce, slices.Repeat([]api.Expr{num(1)}, 1998)...))); e != api.OK {
		t.Errorf("2000 parts: %d", e)
	}
	if _, e := sqlparse.Show(x(of(api.ExprCoalesce, slices.Repeat([]api.Expr{num(1)}, 1999)...))); e != api.ErrSqlParts {
		t.Errorf("2001 parts: %d", e)
	}
	if _, e := sqlparse.Show(x(text(strings.Repeat("x", api.MaxSql-9)))); e != api.OK {
		t.Errorf("a long text: %d", e)
	}
	if s, e := sqlparse.Show(x(text(strings.Repeat("x", api.MaxSql-8)))); s != "" || e != api.ErrSqlLong {
		t.Errorf("a longer text: %d", e)
	}
}

// P17.3
func TestShow(t *testing.T) {
	cases := map[string]string{
		`SELECT a.b AS "X y", count(*) FROM t a WHERE NOT a.b = 1 OR c IS NOT NULL`:                                                              `select a.b as "X y", count(*) from t as a where not a.b = 1 or c is not null`,
		"select - -1, 1 - (2 - 3), -(1 + 2) * 3":                                                                                                 "select -(-1), 1 - (2 - 3), -(1 + 2) * 3",
		"insert into t values (1, 'it''s', null)":                                                                                                "insert into t values (1, 'it''s', null)",
		"create table t (a integer primary key, b text default 'x' not null)":                                                                    "create table t (a int primary key, b text not null default 'x')",
		"create table t (primary key (a), a boolean default - 1 unique)":                                                                         "create table t (a bool unique default -1, primary key (a))",
		"select distinct *, t . * from t, u inner join v on 1 left join w x on 2 group by a, b having c order by a asc, b desc limit 1 offset 0": "select distinct *, t.* from t cross join u join v on 1 left join w as x on 2 group by a, b having c order by a, b desc limit 1",
		"select (a or b) and c, not (a and b), (not a) = b, (a = b) = c, a = (b = c), (a + b) || c, a + (b || c)":                                "select (a or b) and c, not (a and b), (not a) = b, (a = b) = c, a = (b = c), a + b || c, a + (b || c)",
		"select (a in (b or c, d)) is null, (a between (b = c) and d) like e, -(a * b), (-a) * b, a * (b / c), a and (b and c), a or (b or c)":   "select (a in (b or c, d)) is null, (a between (b = c) and d) like e, -(a * b), -a * b, a * (b / c), a and (b and c), a or (b or c)",
		"select not not a, not a in (b), a not like b, (not a) and b, (not a) is null, (select1 + 1) in (2)":                                     "select not not a, not a in (b), not a like b, not a and b, (not a) is null, select1 + 1 in (2)",
		"select case when a or b then c else d = e end, coalesce(a or b, c), length(a || b), count(distinct a or b), (a)":                        "select case when a or b then c else d = e end, coalesce(a or b, c), length(a || b), count(distinct a or b), a",
		`select "a", "A", "a b", "9", "from", "a""b", "_9", "é"`:                                                                                 `select a, "A", "a b", "9", "from", "a""b", _9, "é"`,
		"insert into t(a,b)values(1,2),(true,false)":                                                                                             "insert into t (a, b) values (1, 2), (true, false)", "update t set a=1,b=2 where a": "update t set a = 1, b = 2 where a", "delete from t where a=1": "delete from t where a = 1",
		"create unique index i on t(a,b)": "create unique index i on t (a, b)", "create index i on t(a)": "create index i on t (a)", "DROP TABLE zebra": "drop table zebra", "select az09": "select az09", "drop index i": "drop index i", "begin": "begin", "commit": "commit", "rollback": "rollback", "select a offset 5": "select a offset 5",
		"select a < b, a <= b, a > b, a >= b, a != b, a % b, a is null": "select a < b, a <= b, a > b, a >= b, a <> b, a % b, a is null",
	}
	for s, want := range cases {
		if got := show(t, parse(t, s)[0]); got != want {
			t.Errorf("%s\n%s\n%s", s, got, want)
		}
	}
}

// P17.4
func TestWords(t *testing.T) {
	l := sqlparse.Words()
	if len(l) != 50 || !slices.IsSorted(l) || l[0] != "and" || l[49] != "where" {
		t.Errorf("%d: %v", len(l), l)
	}
	for _, w := range l {
		if _, f := sqlparse.Parse("select " + w + ".a"); f.Code != api.ErrSqlSyntax {
			t.Errorf("%s is a name", w)
		}
		if s := show(t, parse(t, `select "`+w+`"`)[0]); s != `select "`+w+`"` {
			t.Errorf("%s", s)
		}
	}
	l[0] = "x"
	if sqlparse.Words()[0] != "and" {
		t.Error("Words shares memory")
	}
}

type maker struct{ r *rand.Rand }

func (m maker) name() string {
	l := []string{"a", "b", "t", "count", "length", "A b", "from", `q"q`, "é", "x9", "int"}
	return l[m.r.Intn(len(l))]
}

func (m maker) expr(depth int) api.Expr {
	if depth == 0 || m.r.Intn(5) == 0 {
		l := []api.Expr{num(m.r.Int63()), text("it's -- "), null(), boolean(int64(m.r.Intn(2))), col(m.name()), {Kind: api.ExprCol, Table: m.name(), Name: m.name()}, agg("count", false, of(api.ExprStar))}
		return l[m.r.Intn(len(l))]
	}
	sub := func() api.Expr { return m.expr(depth - 1) }
	some := func(n int) []api.Expr {
		var l []api.Expr
		for range n + m.r.Intn(3) {
			l = append(l, sub())
		}
		return l
	}
	switch m.r.Intn(6) {
	case 0:
		return of(api.ExprNeg+m.r.Intn(5), sub())
	case 1, 2:
		return of(api.ExprAdd+m.r.Intn(15), sub(), sub())
	case 3:
		return of([]int{api.ExprIn, api.ExprCase}[m.r.Intn(2)], some(2)...)
	case 4:
		return of(api.ExprBetween, sub(), sub(), sub())
	}
	if m.r.Intn(2) == 0 {
		return of(api.ExprCoalesce, some(1)...)
	}
	return agg([]string{"count", "sum", "min", "max", "avg"}[m.r.Intn(5)], m.r.Intn(2) == 0, sub())
}

func (m maker) stmt() api.Stmt {
	x := func() api.Expr { return m.expr(m.r.Intn(5)) }
	perhaps := func() api.Expr {
		if m.r.Intn(2) == 0 {
			return api.Expr{}
		}
		return x()
	}
	switch m.r.Intn(5) {
	case 0:
		return api.Stmt{Kind: api.StmtInsert, Table: m.name(), Columns: []string{m.name()}, Rows: [][]api.Expr{{x(), x()}, {x()}}}
	case 1:
		return api.Stmt{Kind: api.StmtUpdate, Table: m.name(), Sets: []api.Set{{Column: m.name(), Expr: x()}}, Where: perhaps()}
	case 2:
		return api.Stmt{Kind: api.StmtCreateTable, Table: m.name(), Cols: []api.ColumnDef{{Name: m.name(), Type: 1 + m.r.Intn(3), NotNull: m.r.Intn(2) == 0, Key: m.r.Intn(2) == 0, Unique: m.r.Intn(2) == 0, Default: of(api.ExprNeg, num(5))}}, Key: []string{m.name()}}
	}
	s := api.Select{Distinct: m.r.Intn(2) == 0, Items: []api.Item{{Star: true}, {Expr: x(), As: m.name()}, {Star: true, Table: m.name()}, {Expr: x()}}, Where: perhaps(), Having: perhaps(), Limit: m.r.Intn(3) - 1, Offset: m.r.Intn(2)}
	if m.r.Intn(2) == 0 {
		s.From = []api.Source{{Table: m.name()}, {Table: m.name(), As: m.name(), On: x(), Left: m.r.Intn(2) == 0}, {Table: m.name()}}
		s.Order = []api.Order{{Expr: x(), Desc: m.r.Intn(2) == 0}, {Expr: x()}}
		s.Group = []api.Expr{x(), x()}
	}
	return selects(s)
}

// P17.5
func TestRoundTrip(t *testing.T) {
	m := maker{rand.New(rand.NewSource(175))}
	for range 3000 {
		s := m.stmt()
		if sqlparse.Right(s) != api.OK {
			continue
		}
		text := show(t, s)
		l := parse(t, text)
		if len(l) != 1 || !reflect.DeepEqual(l[0], s) {
			t.Fatalf("%s\n%+v\n%+v", text, s, l)
		}
		if again := show(t, l[0]); again != text {
			t.Fatalf("%s\n%s", text, again)
		}
	}
}

// P17.6, P17.7
func TestSameStatements(t *testing.T) {
	m := maker{rand.New(rand.NewSource(176))}
	for range 300 {
		a, b := m.stmt(), m.stmt()
		if sqlparse.Right(a) != api.OK || sqlparse.Right(b) != api.OK {
			continue
		}
		x, y := show(t, a), show(t, b)
		both, f := sqlparse.Parse(x + "\n;" + y)
		if f.Code == api.OK && (len(both) != 2 || !reflect.DeepEqual(both, []api.Stmt{a, b})) {
			t.Fatalf("%s and %s", x, y)
		}
		if strings.ContainsAny(x, `'"`) {
			continue
		}
		loud := strings.ToUpper(strings.ReplaceAll(x, " ", " -- from\n\t"))
		if l := parse(t, loud); !reflect.DeepEqual(l, []api.Stmt{a}) {
			t.Fatalf("%s", loud)
		}
	}
	for _, first := range []string{"select 1 1", "x", "select a from t where b = c = d", "create table t ()"} {
		_, f := sqlparse.Parse(first)
		if _, g := sqlparse.Parse(first + "\n;select 'x'"); f != g {
			t.Errorf("%s: %v, %v", first, f, g)
		}
	}
}

// Whatever the bytes are, Parse ends, and its errors are where they should be.
func TestAnyBytes(t *testing.T) {
	r := rand.New(rand.NewSource(17))
	parts := append(sqlparse.Words(), "a", "b", "1", "'x'", "(", ")", ",", ".", ";", "*", "+", "-", "=", "<", "||", " ", "\n", "--", "count", "length", "int", `"q"`, "#", "'", `"`)
	for range 20000 {
		var s []string
		for range r.Intn(12) {
			s = append(s, parts[r.Intn(len(parts))])
		}
		text := strings.Join(s, []string{"", " "}[r.Intn(2)])
		l, f := sqlparse.Parse(text)
		if f.At < 0 || f.At > len(text) || f.Code != api.OK && l != nil {
			t.Fatalf("%q: %v", text, f)
		}
		for _, one := range l {
			again := parse(t, show(t, one))
			if fmt.Sprint(again) != fmt.Sprint([]api.Stmt{one}) {
				t.Fatalf("%q", text)
			}
		}
	}
}

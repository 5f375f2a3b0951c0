package expr_test

import (
	"fmt"
	"math"
	"math/big"
	"math/rand"
	"reflect"
	"regexp"
	"strings"
	"testing"

	"cormorant/api"
	"cormorant/catalog"
	"cormorant/expr"
	"cormorant/sqlparse"
)

func integer(n int64) api.Value { return api.Value{Type: api.TypeInt, Int: n} }

func boolean(n int64) api.Value { return api.Value{Type: api.TypeBool, Int: n} }

func text(s string) api.Value { return api.Value{Type: api.TypeText, Text: s} }

func null(t int) api.Value { return api.Value{Type: t, Null: true} }

func value(v api.Value) api.Expr { return api.Expr{Kind: api.ExprValue, Value: v, Type: v.Type} }

func col(slot, t int) api.Expr { return api.Expr{Kind: api.ExprCol, Slot: slot, Type: t} }

func of(kind, t int, args ...api.Expr) api.Expr { return api.Expr{Kind: kind, Type: t, Args: args} }

// bound is an expression of SQL over the columns i, b, t of a table.
func bound(t *testing.T, s string) api.Expr {
	t.Helper()
	l, f := sqlparse.Parse("create table t (i int primary key, b bool, t text); select " + s + " from t")
	if f.Code != api.OK {
		t.Fatalf("%s: %v", s, f)
	}
	c, _ := catalog.Apply(catalog.Empty(), l[0])
	x, e := catalog.Bind(c, l[1])
	if e != api.OK {
		t.Fatalf("%s: %d", s, e)
	}
	return x.Out[0].Expr
}

var row = []api.Value{integer(7), boolean(1), text("abc")}

// eval is what an expression comes to, in short.
func eval(t *testing.T, s string) string {
	t.Helper()
	v, e := expr.Eval(bound(t, s), row, nil)
	if e != api.OK {
		if v != (api.Value{}) {
			t.Errorf("%s: a value beside an error", s)
		}
		return fmt.Sprint("error ", int(e))
	}
	return show(v)
}

func show(v api.Value) string {
	switch {
	case v.Null:
		return fmt.Sprint("null ", v.Type)
	case v.Type == api.TypeInt:
		return fmt.Sprint(v.Int)
	case v.Type == api.TypeBool:
		return []string{"false", "true"}[v.Int]
	}
	return "'" + v.Text + "'"
}

// P19.2
func TestEval(t *testing.T) {
	for s, want := range map[string]string{
		"1 / 0 = 1 and false": "false", "false and 1 / 0 = 1": "false", "1 / 0 = 1 and null": "null 2", "null and 1 / 0 = 1": "null 2", "1 / 0 = 1 and true": "error 191", "true and 1 / 0 = 1": "error 191", "true and true": "true", "true and null": "null 2", "null and false": "false", "1 / 0 = 1 and -9223372036854775807 - 2 = 1": "error 191", "-9223372036854775807 - 2 = 1 and 1 / 0 = 1": "error 190",
		"1 / 0 = 1 or null": "error 191", "null or 1 / 0 = 1": "error 191", "null or true": "true", "true or 1 / 0 = 1": "true", "1 / 0 = 1 or true": "true", "1 / 0 = 1 or false": "error 191", "false or null": "null 2", "false or false": "false", "1 / 0 = 1 or -9223372036854775807 - 2 = 1": "error 191",
		"-9223372036854775807 - 2": "error 190", "-9223372036854775807 - 1": "-9223372036854775808", "9223372036854775807 + 1": "error 190", "9223372036854775807 + -1": "9223372036854775806", "-(-9223372036854775807 - 1)": "error 190", "-i": "-7", "4611686018427387904 * 2": "error 190", "4611686018427387904 * -2": "-9223372036854775808", "-4611686018427387904 * 2": "-9223372036854775808", "3037000500 * 3037000500": "error 190", "0 * i": "0",
		"-7 / 2": "-3", "-7 % 2": "-1", "7 % -2": "1", "7 / -2": "-3", "1 / 0": "error 191", "1 % 0": "error 191", "(-9223372036854775807 - 1) / -1": "error 190", "(-9223372036854775807 - 1) % -1": "0", "null / 0": "null 1", "1 / 0 + null": "error 191", "null + 1 / 0": "error 191", "1 + null": "null 1",
		"1 in (2, null)": "null 2", "1 in (2, null, 1)": "true", "1 in (2, 3)": "false", "null in (1)": "null 2", "null in (1 / 0)": "error 191", "1 in (1 / 0, 1)": "true", "1 in (1 / 0, null)": "error 191", "1 in (null, 1 / 0)": "error 191", "1 / 0 in (1)": "error 191", "t in ('x', 'abc')": "true", "1 not in (2, null)": "null 2",
		"2 between 1 and null": "null 2", "0 between 1 and null": "false", "3 between null and 2": "false", "2 between 1 and 3": "true", "2 between 2 and 2": "true", "1 between 2 and 1 / 0": "false", "3 between 1 / 0 and 2": "false", "2 between 1 / 0 and 2": "error 191", "null between 1 / 0 and 2": "null 2", "1 / 0 between 1 and 2": "error 191", "2 between 1 and 1 / 0": "error 191",
		"case when false then 1 / 0 end": "null 1", "case when true then 1 else 1 / 0 end": "1", "case when null then 1 else 2 end": "2", "case when 1 / 0 = 1 then 1 else 2 end": "error 191", "case when false then 1 when b then 3 when 1 / 0 = 1 then 4 end": "3", "case when true then null else 1 end": "null 1", "case when true then null end": "null 4",
		"coalesce(null, 3, 1 / 0)": "3", "coalesce(null, 1 / 0, 3)": "error 191", "coalesce(null, null)": "null 4", "coalesce(null, i)": "7", "coalesce(t)": "'abc'", "null is null": "true", "i is null": "false", "i is not null": "true", "null is not null": "false", "1 / 0 is null": "error 191",
		"not b": "false", "not false": "true", "not null": "null 2", "length(t)": "3", "length('é')": "2", "length(null)": "null 1", "t || 'd'": "'abcd'", "t || null": "null 3", "'abc' like 'a%'": "true", `'a%' like 'a\%'`: "true", "'ab' like '_'": "false", "'' like '%'": "true", "null like '%'": "null 2", "t like null": "null 2",
		"1 = 1": "true", "1 <> 1": "false", "1 < 2": "true", "2 <= 1": "false", "2 > 1": "true", "1 >= 1": "true", "false < true": "true", "'a' < 'ab'": "true", "'B' < 'a'": "true", "'é' > 'z'": "true", "null = null": "null 2", "1 = null": "null 2", "null = 1 / 0": "error 191", "i": "7", "null": "null 4", "'x'": "'x'", "true": "true",
	} {
		if got := eval(t, s); got != want {
			t.Errorf("%s: %s, want %s", s, got, want)
		}
	}
	long := text(strings.Repeat("x", 65536))
	if v, e := expr.Eval(of(api.ExprConcat, api.TypeText, value(long), value(text(""))), nil, nil); len(v.Text) != 65536 || e != api.OK {
		t.Errorf("a long text: %d", e)
	}
	if _, e := expr.Eval(of(api.ExprConcat, api.TypeText, value(long), value(text("y"))), nil, nil); e != api.ErrTextLong {
		t.Errorf("a longer text: %d", e)
	}
	for n, want := range map[int]api.Errno{1000: api.OK, 1001: api.ErrTextLong} {
		if _, e := expr.Eval(of(api.ExprLike, api.TypeBool, value(text("")), value(text(strings.Repeat("%", n)))), nil, nil); e != want {
			t.Errorf("a pattern of %d: %d", n, e)
		}
	}
	agg := api.Expr{Kind: api.ExprAgg, Name: "sum", Slot: 1, Type: api.TypeInt, Args: []api.Expr{{}}}
	if v, e := expr.Eval(of(api.ExprAdd, api.TypeInt, agg, col(0, api.TypeNone)), []api.Value{null(api.TypeNone)}, []api.Value{text("x"), integer(5)}); v != null(api.TypeInt) || e != api.OK {
		t.Errorf("an aggregate: %v %d", v, e)
	}
	if v, e := expr.Eval(agg, nil, []api.Value{text("x"), integer(5)}); v != integer(5) || e != api.OK {
		t.Errorf("an aggregate: %v %d", v, e)
	}
}

// P19.1, P19.2
func TestRight(t *testing.T) {
	types := []int{api.TypeInt, api.TypeBool, api.TypeText, api.TypeNone, 5, 0}
	aggs := []int{api.TypeInt, api.TypeText}
	i, b, s, n := col(0, api.TypeInt), col(1, api.TypeBool), col(2, api.TypeText), col(3, api.TypeNone)
	agg := api.Expr{Kind: api.ExprAgg, Name: "max", Slot: 1, Type: api.TypeText, Args: []api.Expr{{Kind: 99}}}
	right := []api.Expr{
		i, b, s, n, agg, value(integer(-5)), value(null(api.TypeInt)), value(null(api.TypeNone)), value(text(strings.Repeat("x", 65536))), of(api.ExprNeg, 1, i), of(api.ExprNeg, 1, n), of(api.ExprNot, 2, b), of(api.ExprLength, 1, s), of(api.ExprIsNull, 2, i), of(api.ExprIsNotNull, 2, n), of(api.ExprAdd, 1, i, n), of(api.ExprMod, 1, n, i), of(api.ExprConcat, 3, s, agg), of(api.ExprLike, 2, s, n),
		of(api.ExprEq, 2, i, i), of(api.ExprGe, 2, n, s), of(api.ExprNe, 2, n, n), of(api.ExprAnd, 2, b, n), of(api.ExprOr, 2, b, b), of(api.ExprIn, 2, i, n, i), of(api.ExprBetween, 2, n, i, i), of(api.ExprCase, 1, b, i), of(api.ExprCase, 3, n, n, b, s), of(api.ExprCase, 1, b, n, i), of(api.ExprCase, 4, b, n), of(api.ExprCoalesce, 4, n), of(api.ExprCoalesce, 3, n, s),
	}
	for k, x := range right {
		if !expr.Right(x, types, aggs) {
			t.Errorf("%d is not right", k)
		}
	}
	with := func(x api.Expr, f func(x *api.Expr)) api.Expr {
		f(&x)
		return x
	}
	wrong := []api.Expr{
		{}, {Kind: 99}, {Kind: -1}, {Kind: api.ExprStar}, col(0, api.TypeBool), col(6, api.TypeInt), col(-1, api.TypeInt), col(4, 5), col(5, 0), with(i, func(x *api.Expr) { x.Name = "i" }), with(i, func(x *api.Expr) { x.Table = "t" }), with(i, func(x *api.Expr) { x.Distinct = true }), with(i, func(x *api.Expr) { x.Args = []api.Expr{i} }), with(i, func(x *api.Expr) { x.Value = integer(1) }),
		with(agg, func(x *api.Expr) { x.Slot = 0 }), with(agg, func(x *api.Expr) { x.Slot = 2 }), with(agg, func(x *api.Expr) { x.Args = nil }), with(agg, func(x *api.Expr) { x.Args = []api.Expr{i, i} }), with(agg, func(x *api.Expr) { x.Type = api.TypeInt }), with(agg, func(x *api.Expr) { x.Table = "t" }), with(agg, func(x *api.Expr) { x.Value = integer(1) }),
		with(value(integer(1)), func(x *api.Expr) { x.Type = api.TypeBool }), with(value(integer(1)), func(x *api.Expr) { x.Slot = 1 }), with(value(integer(1)), func(x *api.Expr) { x.Args = []api.Expr{i} }), value(api.Value{}), value(boolean(2)), value(text("\x00")), value(text(strings.Repeat("x", 65537))), value(api.Value{Type: api.TypeInt, Null: true, Int: 1}), value(api.Value{Type: api.TypeNone}), value(api.Value{Type: api.TypeInt, Text: "x"}), value(api.Value{Type: api.TypeText, Int: 1}), value(api.Value{Type: api.TypeBool, Text: "x"}),
		of(api.ExprNeg, 1, b), of(api.ExprNeg, 2, i), of(api.ExprNeg, 1), of(api.ExprNeg, 1, i, i), of(api.ExprNot, 2, i), of(api.ExprLength, 1, i), of(api.ExprIsNull, 1, i), of(api.ExprAdd, 1, i), of(api.ExprAdd, 1, i, i, i), of(api.ExprAdd, 1, i, b), of(api.ExprConcat, 3, s, i), of(api.ExprConcat, 1, s, s), of(api.ExprLike, 2, s, i), of(api.ExprLike, 3, s, s), of(api.ExprEq, 2, i, b), of(api.ExprEq, 1, i, i), of(api.ExprAnd, 2, b, i), of(api.ExprIn, 2, i), of(api.ExprIn, 2, i, n, b), of(api.ExprBetween, 2, i, i), of(api.ExprBetween, 2, i, i, s), of(api.ExprCase, 1, i), of(api.ExprCase, 1, i, i), of(api.ExprCase, 1, b, i, s), of(api.ExprCase, 4, b, i), of(api.ExprCoalesce, 4), of(api.ExprCoalesce, 3, s, i), of(api.ExprCoalesce, 1, s),
		of(api.ExprNeg, 1, of(api.ExprNeg, 1, b)), with(of(api.ExprNeg, 1, i), func(x *api.Expr) { x.Slot = 1 }), with(of(api.ExprNeg, 1, i), func(x *api.Expr) { x.Name = "x" }), with(of(api.ExprNeg, 1, i), func(x *api.Expr) { x.Distinct = true }), with(of(api.ExprNeg, 1, i), func(x *api.Expr) { x.Value.Int = 1 }), with(of(api.ExprNeg, 1, i), func(x *api.Expr) { x.Table = "t" }),
	}
	for k, x := range wrong {
		if expr.Right(x, types, aggs) {
			t.Errorf("%d is right", k)
		}
		if v, e := expr.Eval(x, []api.Value{integer(1), boolean(1), text("x"), null(api.TypeNone)}, []api.Value{integer(1), text("y")}); e != api.ErrArg || v != (api.Value{}) {
			t.Errorf("Eval %d: %d", k, e)
		}
	}
	for _, v := range []api.Value{{}, boolean(2), {Type: api.TypeNone}, {Type: 5, Null: true}} {
		if _, e := expr.Eval(value(integer(1)), []api.Value{v}, nil); e != api.ErrArg {
			t.Errorf("a row with %v: %d", v, e)
		}
		if _, e := expr.Eval(value(integer(1)), nil, []api.Value{v}); e != api.ErrArg {
			t.Errorf("aggregates with %v: %d", v, e)
		}
	}
}

// P19.3, P19.8
func TestOrder(t *testing.T) {
	l := []api.Value{{}, integer(math.MinInt64), integer(-1), integer(0), integer(math.MaxInt64), boolean(0), boolean(1), text(""), text("A"), text("a"), text("ab"), text("\xff"), {Type: 9}, null(api.TypeInt)}
	for i, a := range l {
		for j, b := range l {
			want := 0
			if i < j {
				want = -1
			} else if i > j {
				want = 1
			}
			if got := expr.Order(a, b); got != want {
				t.Errorf("%v, %v: %d", a, b, got)
			}
		}
	}
	if expr.Order(null(1), null(3)) != 0 {
		t.Error("two Nulls")
	}
}

// P19.4
func TestLike(t *testing.T) {
	for _, c := range []struct {
		text, pattern string
		want          bool
	}{{"", "", true}, {"a", "", false}, {"", "_", false}, {"", "%%", true}, {"abc", "%c", true}, {"abc", "%b", false}, {"abc", "a_c", true}, {"abcbc", "a%bc", true}, {"abcb", "a%bc", false}, {"a_c", `a\_c`, true}, {"abc", `a\_c`, false}, {`a\`, `a\`, true}, {"a", `a\`, false}, {`\`, `\\`, true}, {"ab", `\a\b`, true}, {"\xff", "_", true}, {"é", "_", false}, {"é", "__", true}, {"%", `\%`, true}, {"x", `\%`, false}, {"a\nb", "a%b", true}, {"mississippi", "%iss%ip%", true}, {"mississippi", "%iss%ipx%", false}} {
		if got := expr.Like(c.text, c.pattern); got != c.want {
			t.Errorf("%q like %q: %v", c.text, c.pattern, got)
		}
	}
	r := rand.New(rand.NewSource(194))
	for range 20000 {
		text, pattern := pick(r, `ab\`), pick(r, `ab%_\`)
		var re strings.Builder
		re.WriteString("(?s)^")
		for i := 0; i < len(pattern); i++ {
			switch c := pattern[i]; {
			case c == '%':
				re.WriteString(".*")
			case c == '_':
				re.WriteString(".")
			case c == '\\' && i+1 < len(pattern):
				i++
				re.WriteString(regexp.QuoteMeta(pattern[i : i+1]))
			default:
				re.WriteString(regexp.QuoteMeta(pattern[i : i+1]))
			}
		}
		re.WriteString("$")
		if want := regexp.MustCompile(re.String()).MatchString(text); expr.Like(text, pattern) != want {
			t.Fatalf("%q like %q: not %v", text, pattern, want)
		}
	}
	if !expr.Like(strings.Repeat("a", 20000), strings.Repeat("%a", 1000)+"%") || expr.Like(strings.Repeat("a", 5000), strings.Repeat("%a", 1000)+"b") {
		t.Error("a long pattern")
	}
}

func pick(r *rand.Rand, from string) string {
	b := make([]byte, r.Intn(8))
	for i := range b {
		b[i] = from[r.Intn(len(from))]
	}
	return string(b)
}

func agg(name string, distinct bool, arg, t int) api.Expr {
	return api.Expr{Kind: api.ExprAgg, Name: name, Distinct: distinct, Type: t, Args: []api.Expr{col(0, arg)}}
}

var star = api.Expr{Kind: api.ExprAgg, Name: "count", Type: api.TypeInt, Args: []api.Expr{{Kind: api.ExprStar}}}

// result is what an aggregate makes of values.
func result(t *testing.T, x api.Expr, l ...api.Value) (api.Value, api.Errno) {
	t.Helper()
	a, e := expr.New(x)
	if e != api.OK {
		t.Fatalf("New(%v): %d", x, e)
	}
	for _, v := range l {
		if e := a.Add(v); e != api.OK {
			t.Fatalf("Add(%v): %d", v, e)
		}
	}
	return a.Result()
}

// P19.5
func TestAggregates(t *testing.T) {
	big, least := integer(math.MaxInt64), integer(math.MinInt64)
	cases := []struct {
		x    api.Expr
		l    []api.Value
		want api.Value
		e    api.Errno
	}{
		{agg("sum", false, 1, 1), []api.Value{integer(3), null(1), integer(4)}, integer(7), 0}, {agg("avg", false, 1, 1), []api.Value{integer(-3), integer(-4)}, integer(-3), 0}, {agg("count", true, 1, 1), []api.Value{integer(1), integer(1), null(1)}, integer(1), 0}, {agg("max", false, 3, 3), nil, null(3), 0}, {agg("max", false, 3, 3), []api.Value{null(3), null(api.TypeNone)}, null(3), 0},
		{star, nil, integer(0), 0}, {star, []api.Value{null(api.TypeNone), integer(1), text("x")}, integer(3), 0}, {agg("count", false, 3, 1), []api.Value{text("x"), null(3), text("x")}, integer(2), 0}, {agg("count", false, 3, 1), nil, integer(0), 0}, {agg("sum", false, 1, 1), nil, null(1), 0}, {agg("avg", false, 1, 1), []api.Value{null(1)}, null(1), 0},
		{agg("sum", false, 1, 1), []api.Value{big, integer(1)}, api.Value{}, api.ErrOutOfRange}, {agg("sum", false, 1, 1), []api.Value{least, integer(-1)}, api.Value{}, api.ErrOutOfRange}, {agg("sum", false, 1, 1), []api.Value{big, integer(1), integer(-1)}, big, 0}, {agg("sum", false, 1, 1), []api.Value{least, big, integer(1)}, integer(0), 0}, {agg("sum", false, 1, 1), []api.Value{least}, least, 0},
		{agg("avg", false, 1, 1), []api.Value{big, big, big}, big, 0}, {agg("avg", false, 1, 1), []api.Value{least, least}, least, 0}, {agg("avg", false, 1, 1), []api.Value{integer(3), integer(4)}, integer(3), 0}, {agg("sum", true, 1, 1), []api.Value{integer(3), integer(3), integer(4)}, integer(7), 0}, {agg("avg", true, 1, 1), []api.Value{integer(2), integer(2), integer(8)}, integer(5), 0},
		{agg("min", false, 3, 3), []api.Value{text("b"), text("a"), null(3), text("c")}, text("a"), 0}, {agg("max", false, 3, 3), []api.Value{text("b"), text("c"), text("a")}, text("c"), 0}, {agg("min", false, 2, 2), []api.Value{boolean(1), boolean(0)}, boolean(0), 0}, {agg("max", true, 1, 1), []api.Value{integer(-5), integer(-7)}, integer(-5), 0}, {agg("sum", false, 4, 1), []api.Value{null(4)}, null(1), 0}, {agg("sum", false, 4, 1), []api.Value{boolean(1), integer(4), text("x")}, integer(5), 0}, {agg("max", false, 4, 4), nil, null(4), 0},
	}
	for i, c := range cases {
		if v, e := result(t, c.x, c.l...); v != c.want || e != c.e {
			t.Errorf("%d: %v %d, want %v %d", i, v, e, c.want, c.e)
		}
	}
	wrong := []api.Expr{
		{}, col(0, 1), agg("", false, 1, 1), agg("length", false, 1, 1), agg("COUNT", false, 1, 1), agg("count", false, 1, 2), agg("count", false, 0, 1), agg("count", false, 5, 1), agg("sum", false, 2, 1), agg("sum", false, 3, 1), agg("sum", false, 1, 2), agg("sum", false, 4, 4), agg("avg", false, 3, 1), agg("min", false, 1, 2), agg("max", false, 4, 1), {Kind: api.ExprAgg, Name: "count", Type: 1}, {Kind: api.ExprAgg, Name: "count", Type: 1, Args: []api.Expr{col(0, 1), col(0, 1)}},
		{Kind: api.ExprAgg, Name: "sum", Type: 1, Args: []api.Expr{{Kind: api.ExprStar}}}, {Kind: api.ExprAgg, Name: "count", Distinct: true, Type: 1, Args: []api.Expr{{Kind: api.ExprStar}}}, {Kind: api.ExprAgg, Name: "count", Type: 1, Args: []api.Expr{{Kind: api.ExprStar, Type: 1}}}, {Kind: api.ExprAgg, Name: "count", Type: 2, Args: []api.Expr{{Kind: api.ExprStar}}},
	}
	for i, x := range wrong {
		if a, e := expr.New(x); a != nil || e != api.ErrArg {
			t.Errorf("New %d: %d", i, e)
		}
	}
	a, _ := expr.New(agg("sum", false, 1, 1))
	for _, v := range []api.Value{{}, boolean(1), text("x"), null(3), {Type: api.TypeNone}, {Type: api.TypeInt, Text: "x"}} {
		if e := a.Add(v); e != api.ErrArg {
			t.Errorf("Add(%v): %d", v, e)
		}
	}
	a.Add(integer(5))
	if v, _ := a.Result(); v != integer(5) {
		t.Errorf("Result: %v", v)
	}
	b, _ := expr.New(star)
	if e := b.Add(api.Value{Type: api.TypeNone}); e != api.ErrArg {
		t.Errorf("Add: %d", e)
	}
}

// P19.6: the order makes no difference; and the sums are exact.
func TestAnyOrder(t *testing.T) {
	r := rand.New(rand.NewSource(196))
	for range 500 {
		var l []api.Value
		sum := new(big.Int)
		for range 1 + r.Intn(9) {
			n := int64(r.Uint64()) >> r.Intn(64)
			l = append(l, integer(n))
			sum.Add(sum, big.NewInt(n))
		}
		avg := new(big.Int).Quo(sum, big.NewInt(int64(len(l))))
		if v, e := result(t, agg("avg", false, 1, 1), l...); e != api.OK || big.NewInt(v.Int).Cmp(avg) != 0 {
			t.Fatalf("avg of %v: %v", l, v)
		}
		v, e := result(t, agg("sum", false, 1, 1), l...)
		if sum.IsInt64() != (e == api.OK) || e == api.OK && v.Int != sum.Int64() {
			t.Fatalf("sum of %v: %v %d", l, v, e)
		}
		for _, name := range []string{"count", "sum", "min", "max", "avg"} {
			x := agg(name, r.Intn(2) == 0, 1, 1)
			a, e := result(t, x, l...)
			r.Shuffle(len(l), func(i, j int) { l[i], l[j] = l[j], l[i] })
			b, f := result(t, x, l...)
			if !reflect.DeepEqual([]any{a, e}, []any{b, f}) {
				t.Fatalf("%s of %v", name, l)
			}
		}
	}
}

// P19.6, P19.7
func TestLogic(t *testing.T) {
	l := []string{"true", "false", "null", "1 / 0 = 1", "-9223372036854775807 - 2 = 1"}
	for i, a := range l {
		for j, b := range l {
			for _, op := range []string{"and", "or"} {
				x, y := eval(t, a+" "+op+" "+b), eval(t, b+" "+op+" "+a)
				if x != y && !(strings.HasPrefix(x, "error") && strings.HasPrefix(y, "error")) {
					t.Errorf("%s %s %s: %s, %s", a, op, b, x, y)
				}
			}
			if i < 3 && j < 3 {
				if x, y := eval(t, "not ("+a+" and "+b+")"), eval(t, "not "+a+" or not "+b); x != y {
					t.Errorf("not of %s and %s: %s, %s", a, b, x, y)
				}
			}
		}
	}
}

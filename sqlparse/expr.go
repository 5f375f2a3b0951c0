package sqlparse

import "cormorant/api"

func one(kind int, x api.Expr) api.Expr { return api.Expr{Kind: kind, Args: []api.Expr{x}} }

func both(kind int, x, y api.Expr) api.Expr { return api.Expr{Kind: kind, Args: []api.Expr{x, y}} }

func (p *parser) expr() api.Expr {
	x := p.and()
	for p.word("or") {
		x = both(api.ExprOr, x, p.and())
	}
	return x
}

func (p *parser) and() api.Expr {
	x := p.not()
	for p.word("and") {
		x = both(api.ExprAnd, x, p.not())
	}
	return x
}

func (p *parser) not() api.Expr {
	if p.word("not") {
		return one(api.ExprNot, p.not())
	}
	return p.pred()
}

func (p *parser) pred() api.Expr {
	x := p.sum()
	if kind := p.compare(); kind != 0 {
		return both(kind, x, p.sum())
	}
	if p.word("is") {
		kind := api.ExprIsNull
		if p.word("not") {
			kind = api.ExprIsNotNull
		}
		p.needWord("null")
		return one(kind, x)
	}
	not := p.word("not")
	y, ok := p.test(x)
	switch {
	case not && !ok:
		p.wrong()
	case not:
		return one(api.ExprNot, y)
	}
	return y
}

// compare takes a sign that compares; 0: there is none.
func (p *parser) compare() int {
	switch {
	case p.sign("="):
		return api.ExprEq
	case p.sign("<>"):
		return api.ExprNe
	case p.sign("<"):
		return api.ExprLt
	case p.sign("<="):
		return api.ExprLe
	case p.sign(">"):
		return api.ExprGt
	case p.sign(">="):
		return api.ExprGe
	}
	return 0
}

// test takes what may stand behind a sum, with a not ahead of it; false: nothing of it does.
func (p *parser) test(x api.Expr) (api.Expr, bool) {
	switch {
	case p.word("in"):
		return api.Expr{Kind: api.ExprIn, Args: append([]api.Expr{x}, p.row()...)}, true
	case p.word("between"):
		low := p.sum()
		p.needWord("and")
		return api.Expr{Kind: api.ExprBetween, Args: []api.Expr{x, low, p.sum()}}, true
	case p.word("like"):
		return both(api.ExprLike, x, p.sum()), true
	}
	return x, false
}

func (p *parser) sum() api.Expr {
	x := p.term()
	for {
		switch {
		case p.sign("+"):
			x = both(api.ExprAdd, x, p.term())
		case p.sign("-"):
			x = both(api.ExprSub, x, p.term())
		case p.sign("||"):
			x = both(api.ExprConcat, x, p.term())
		default:
			return x
		}
	}
}

func (p *parser) term() api.Expr {
	x := p.unary()
	for {
		switch {
		case p.sign("*"):
			x = both(api.ExprMul, x, p.unary())
		case p.sign("/"):
			x = both(api.ExprDiv, x, p.unary())
		case p.sign("%"):
			x = both(api.ExprMod, x, p.unary())
		default:
			return x
		}
	}
}

func (p *parser) unary() api.Expr {
	switch {
	case p.sign("-"):
		return one(api.ExprNeg, p.unary())
	case p.sign("("):
		x := p.expr()
		p.needSign(")")
		return x
	case p.word("case"):
		return p.cases()
	case p.l[0].kind == tokenNumber:
		return p.number()
	case p.l[0].kind == tokenName:
		return p.named()
	}
	x, ok := p.literal()
	if !ok {
		p.wrong()
	}
	return x
}

func (p *parser) number() api.Expr {
	n := p.take(tokenNumber).number
	return api.Expr{Kind: api.ExprValue, Value: api.Value{Type: api.TypeInt, Int: n}}
}

func (p *parser) literal() (api.Expr, bool) {
	var v api.Value
	switch {
	case p.l[0].kind == tokenText:
		v = api.Value{Type: api.TypeText, Text: p.take(tokenText).text}
	case p.word("true"):
		v = api.Value{Type: api.TypeBool, Int: 1}
	case p.word("false"):
		v = api.Value{Type: api.TypeBool}
	case p.word("null"):
		v = api.Value{Type: api.TypeNone, Null: true}
	default:
		return api.Expr{}, false
	}
	return api.Expr{Kind: api.ExprValue, Value: v}, true
}

func (p *parser) cases() api.Expr {
	var l []api.Expr
	p.needWord("when")
	for again := true; again; again = p.word("when") {
		l = append(l, p.expr())
		p.needWord("then")
		l = append(l, p.expr())
	}
	if p.word("else") {
		l = append(l, p.expr())
	}
	p.needWord("end")
	return api.Expr{Kind: api.ExprCase, Args: l}
}

// named takes a column or a call.
func (p *parser) named() api.Expr {
	name := p.l[0].text
	if p.comes(1, "(") {
		switch {
		case name == "length":
			p.l = p.l[2:]
			x := p.expr()
			p.needSign(")")
			return one(api.ExprLength, x)
		case name == "coalesce":
			p.l = p.l[1:]
			return api.Expr{Kind: api.ExprCoalesce, Args: p.row()}
		case isAggregate(name):
			p.l = p.l[2:]
			return p.aggregate(name)
		}
	}
	p.l = p.l[1:]
	if p.sign(".") {
		return api.Expr{Kind: api.ExprCol, Table: name, Name: p.name()}
	}
	return api.Expr{Kind: api.ExprCol, Name: name}
}

func isAggregate(name string) bool {
	switch name {
	case "count", "sum", "min", "max", "avg":
		return true
	}
	return false
}

// aggregate takes what stands behind an aggregate's parenthesis.
func (p *parser) aggregate(name string) api.Expr {
	x := api.Expr{Kind: api.ExprAgg, Name: name}
	if name == "count" && p.sign("*") {
		x.Args = []api.Expr{{Kind: api.ExprStar}}
	} else {
		x.Distinct = p.word("distinct")
		x.Args = []api.Expr{p.expr()}
	}
	p.needSign(")")
	return x
}

package parse

import "colophon/api"

func (p *Parser) expr(api.Tok) deed {
	return p.open(api.Expr, p.rel, p.many(key("and", "or"), p.rel))
}

func (p *Parser) rel(api.Tok) deed {
	return p.open(api.Rel, p.sum, p.maybe(sign("=", "#", "<", "<=", ">", ">="), p.sum))
}

func (p *Parser) sum(api.Tok) deed {
	return p.open(api.Sum, p.term, p.many(sign("+", "-"), p.term))
}

func (p *Parser) term(api.Tok) deed {
	return p.open(api.Term, p.factor, p.many(sign("*", "/", "%"), p.factor))
}

func (p *Parser) factor(t api.Tok) deed {
	switch factor(t) {
	case api.Minus:
		return p.open(api.Minus, sign("-"), p.factor)
	case api.Not:
		return p.open(api.Not, key("not"), p.factor)
	case api.Group:
		return p.open(api.Group, sign("("), p.expr, sign(")"))
	case api.Value:
		return p.open(api.Value, constant)
	case api.Object:
		return p.expect(p.object)
	}
	return refused
}

// factor is which one a token begins; 0: none. It is what an Expr can begin with, too.
func factor(t api.Tok) api.NodeKind {
	switch {
	case t.Kind == api.TokSign && t.Text == "-":
		return api.Minus
	case t.Kind == api.TokKey && t.Text == "not":
		return api.Not
	case t.Kind == api.TokSign && t.Text == "(":
		return api.Group
	case constant(t) == taken:
		return api.Value
	case t.Kind == api.TokName:
		return api.Object
	}
	return 0
}

// maybeExpr is a state that begins with an Expr, if the next token can begin one.
func (p *Parser) maybeExpr(s state) state {
	pick := func(t api.Tok) state {
		if factor(t) == 0 {
			return nil
		}
		return s
	}
	return part{p, pick}.once
}

func (p *Parser) object(api.Tok) deed {
	return p.open(api.Object, name, part{p, p.detail}.again)
}

func (p *Parser) detail(t api.Tok) state {
	switch t.Text {
	case "[":
		return p.index
	case ".":
		return p.selection
	case "(":
		return p.args
	}
	return nil
}

func (p *Parser) index(api.Tok) deed {
	return p.open(api.Index, sign("["), p.list, sign("]"))
}

func (p *Parser) selection(api.Tok) deed { return p.open(api.Select, sign("."), name) }

func (p *Parser) args(api.Tok) deed {
	return p.open(api.Args, sign("("), p.maybeExpr(p.list), sign(")"))
}

// list is what Index and Args have between their brackets.
func (p *Parser) list(api.Tok) deed { return p.expect(p.expr, p.many(sign(","), p.expr)) }

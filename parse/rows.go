package parse

import "colophon/api"

// The rows of the grammar, in the order of the document. Each is a state that puts its parts in its place. Where there is a
// choice, a token's text may say which row it is without its kind: the row's first state looks at both.

func (p *Parser) program() deed {
	return p.open(api.Program, key("program"), name, sign(";"), p.block, sign("."))
}

func (p *Parser) block(api.Tok) deed {
	return p.open(api.Block, part{p, p.declaration}.again, key("begin"), p.body, key("end"))
}

func (p *Parser) declaration(t api.Tok) state {
	switch t.Text {
	case "var":
		return p.variables
	case "const":
		return p.constants
	case "proc":
		return p.procedure
	}
	return nil
}

func (p *Parser) variables(api.Tok) deed {
	return p.open(api.Var, key("var"), p.typed, sign(";"))
}

func (p *Parser) constants(api.Tok) deed {
	return p.open(api.Const, key("const"), name, sign("="), p.expr, sign(";"))
}

func (p *Parser) procedure(api.Tok) deed {
	params, result := part{p, p.bracket}.once, p.maybe(sign(":"), p.kind)
	return p.open(api.Proc, key("proc"), name, params, result, sign(";"), p.block, sign(";"))
}

func (p *Parser) bracket(t api.Tok) state {
	if t.Text != "(" {
		return nil
	}
	return p.params
}

func (p *Parser) params(api.Tok) deed {
	return p.open(api.Params, sign("("), p.param, p.many(sign(";"), p.param), sign(")"))
}

func (p *Parser) param(api.Tok) deed { return p.open(api.Param, p.typed) }

// typed is names with their type: in Var, Param and Member.
func (p *Parser) typed(api.Tok) deed {
	return p.expect(name, p.many(sign(","), name), sign(":"), p.kind)
}

// kind is a type.
func (p *Parser) kind(t api.Tok) deed {
	switch {
	case t.Kind == api.TokName:
		return p.open(api.NameType, name)
	case t.Text == "array":
		return p.open(api.Array, key("array"), sign("["), p.expr, sign(".."), p.expr, sign("]"), key("of"), p.kind)
	case t.Text == "record":
		return p.open(api.Record, key("record"), p.member, p.many(sign(";"), p.member), key("end"))
	}
	return refused
}

func (p *Parser) member(api.Tok) deed { return p.open(api.Member, p.typed) }

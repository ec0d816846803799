package parse

import "colophon/api"

func (p *Parser) body(api.Tok) deed {
	return p.open(api.Body, p.statement, p.many(sign(";"), p.statement))
}

func (p *Parser) statement(t api.Tok) deed {
	if t.Kind == api.TokName {
		return p.open(api.Act, p.object, p.maybe(sign(":="), p.expr))
	}
	return p.worded(t.Text)
}

// worded is a statement that begins with a word of the language.
func (p *Parser) worded(first string) deed {
	begin, end := key(first), key("end")
	switch first {
	case "skip":
		return p.open(api.Skip, begin)
	case "if":
		elif := p.many(key("elif"), p.expr, key("then"), p.body)
		return p.open(api.If, begin, p.expr, key("then"), p.body, elif, p.maybe(key("else"), p.body), end)
	case "while":
		return p.open(api.While, begin, p.expr, key("do"), p.body, end)
	case "for":
		return p.open(api.For, begin, name, sign(":="), p.expr, key("to"), p.expr, key("do"), p.body, end)
	case "repeat":
		return p.open(api.Repeat, begin, p.body, key("until"), p.expr)
	case "return":
		return p.open(api.Return, begin, p.maybeExpr(p.expr))
	case "begin":
		return p.open(api.Compound, begin, p.body, end)
	}
	return refused
}

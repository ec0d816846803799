package syntax

import "colophon/api"

func (r *reader) body() {
	r.one(r.statement())
	for r.maybeSign(";") {
		r.one(r.statement())
	}
}

func (r *reader) statement() (api.NodeKind, func()) {
	if r.next().Kind == api.TokName {
		return api.Act, r.act
	}
	switch r.nextKey() {
	case "skip":
		return api.Skip, r.skip
	case "if":
		return api.If, r.branches
	case "while":
		return api.While, r.while
	case "for":
		return api.For, r.count
	case "repeat":
		return api.Repeat, r.repeat
	case "return":
		return api.Return, r.answer
	case "begin":
		return api.Compound, r.compound
	}
	return 0, nil
}

func (r *reader) skip() { r.key("skip") }

func (r *reader) act() {
	r.node(api.Object, r.object)
	if r.maybeSign(":=") {
		r.node(api.Expr, r.expr)
	}
}

func (r *reader) branches() {
	r.key("if")
	r.branch()
	for r.maybeKey("elif") {
		r.branch()
	}
	if r.maybeKey("else") {
		r.node(api.Body, r.body)
	}
	r.key("end")
}

// branch is what If has behind `if` and behind each `elif`.
func (r *reader) branch() {
	r.node(api.Expr, r.expr)
	r.key("then")
	r.node(api.Body, r.body)
}

func (r *reader) while() {
	r.key("while")
	r.node(api.Expr, r.expr)
	r.done()
}

func (r *reader) count() {
	r.key("for")
	r.name()
	r.sign(":=")
	r.node(api.Expr, r.expr)
	r.key("to")
	r.node(api.Expr, r.expr)
	r.done()
}

// done is what While and For do, again and again.
func (r *reader) done() {
	r.key("do")
	r.node(api.Body, r.body)
	r.key("end")
}

func (r *reader) repeat() {
	r.key("repeat")
	r.node(api.Body, r.body)
	r.key("until")
	r.node(api.Expr, r.expr)
}

func (r *reader) answer() {
	r.key("return")
	if r.nextIsExpr() {
		r.node(api.Expr, r.expr)
	}
}

func (r *reader) compound() {
	r.key("begin")
	r.node(api.Body, r.body)
	r.key("end")
}

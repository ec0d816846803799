package syntax

import "colophon/api"

func (r *reader) expr() {
	r.node(api.Rel, r.rel)
	for r.maybeKey("and", "or") {
		r.node(api.Rel, r.rel)
	}
}

func (r *reader) rel() {
	r.node(api.Sum, r.sum)
	if r.maybeSign("=", "#", "<", "<=", ">", ">=") {
		r.node(api.Sum, r.sum)
	}
}

func (r *reader) sum() {
	r.node(api.Term, r.term)
	for r.maybeSign("+", "-") {
		r.node(api.Term, r.term)
	}
}

func (r *reader) term() {
	r.one(r.factor())
	for r.maybeSign("*", "/", "%") {
		r.one(r.factor())
	}
}

func (r *reader) factor() (api.NodeKind, func()) {
	switch t := r.next(); t.Kind {
	case api.TokNumber, api.TokText, api.TokChar:
		return api.Value, r.take
	case api.TokName:
		return api.Object, r.object
	case api.TokKey:
		if t.Text == "not" {
			return api.Not, r.not
		}
	case api.TokSign:
		switch t.Text {
		case "-":
			return api.Minus, r.minus
		case "(":
			return api.Group, r.group
		}
	}
	return 0, nil
}

// nextIsExpr tells whether the next token can begin an Expr: whatever begins a factor can.
func (r *reader) nextIsExpr() bool {
	_, row := r.factor()
	return row != nil
}

func (r *reader) minus() {
	r.sign("-")
	r.one(r.factor())
}

func (r *reader) not() {
	r.key("not")
	r.one(r.factor())
}

func (r *reader) group() {
	r.sign("(")
	r.node(api.Expr, r.expr)
	r.sign(")")
}

func (r *reader) object() {
	r.name()
	for kind, row := r.detail(); row != nil; kind, row = r.detail() {
		r.node(kind, row)
	}
}

// detail is what may stand behind an Object's name.
func (r *reader) detail() (api.NodeKind, func()) {
	switch r.nextSign() {
	case "[":
		return api.Index, r.index
	case ".":
		return api.Select, r.selection
	case "(":
		return api.Args, r.args
	}
	return 0, nil
}

func (r *reader) index() {
	r.sign("[")
	r.list()
	r.sign("]")
}

func (r *reader) selection() {
	r.sign(".")
	r.name()
}

func (r *reader) args() {
	r.sign("(")
	if r.nextIsExpr() {
		r.list()
	}
	r.sign(")")
}

// list is what Index and Args have between their brackets.
func (r *reader) list() {
	r.node(api.Expr, r.expr)
	for r.maybeSign(",") {
		r.node(api.Expr, r.expr)
	}
}

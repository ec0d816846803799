package syntax

import "colophon/api"

// The rows of the grammar, in the order of the document: each is what stands in its node. What is a choice is the node and
// the row that the next token begins, or none.

func (r *reader) program() {
	r.comments()
	r.key("program")
	r.name()
	r.sign(";")
	r.node(api.Block, r.block)
	r.sign(".")
	if r.at < len(r.l) {
		r.refuse()
	}
}

func (r *reader) block() {
	for kind, row := r.declaration(); row != nil; kind, row = r.declaration() {
		r.node(kind, row)
	}
	r.key("begin")
	r.node(api.Body, r.body)
	r.key("end")
}

func (r *reader) declaration() (api.NodeKind, func()) {
	switch r.nextKey() {
	case "var":
		return api.Var, r.variables
	case "const":
		return api.Const, r.constant
	case "proc":
		return api.Proc, r.procedure
	}
	return 0, nil
}

func (r *reader) variables() {
	r.key("var")
	r.typed()
	r.sign(";")
}

func (r *reader) constant() {
	r.key("const")
	r.name()
	r.sign("=")
	r.node(api.Expr, r.expr)
	r.sign(";")
}

func (r *reader) procedure() {
	r.key("proc")
	r.name()
	if r.nextSign() == "(" {
		r.node(api.Params, r.params)
	}
	if r.maybeSign(":") {
		r.one(r.kind())
	}
	r.sign(";")
	r.node(api.Block, r.block)
	r.sign(";")
}

func (r *reader) params() {
	r.sign("(")
	r.node(api.Param, r.typed)
	for r.maybeSign(";") {
		r.node(api.Param, r.typed)
	}
	r.sign(")")
}

// typed is names with their type: in Var, Param and Member.
func (r *reader) typed() {
	r.name()
	for r.maybeSign(",") {
		r.name()
	}
	r.sign(":")
	r.one(r.kind())
}

// kind is a type.
func (r *reader) kind() (api.NodeKind, func()) {
	switch {
	case r.next().Kind == api.TokName:
		return api.NameType, r.name
	case r.nextKey() == "array":
		return api.Array, r.array
	case r.nextKey() == "record":
		return api.Record, r.record
	}
	return 0, nil
}

func (r *reader) array() {
	r.key("array")
	r.sign("[")
	r.node(api.Expr, r.expr)
	r.sign("..")
	r.node(api.Expr, r.expr)
	r.sign("]")
	r.key("of")
	r.one(r.kind())
}

func (r *reader) record() {
	r.key("record")
	r.node(api.Member, r.typed)
	for r.maybeSign(";") {
		r.node(api.Member, r.typed)
	}
	r.key("end")
}

package lang

import "fathom/api"

func (r *reader) program() api.Program {
	all := []api.Func{r.definition(1)}
	for r.next().Kind != api.MarkEnd {
		all = append(all, r.definition(len(all)+1))
	}
	return api.Program{Funcs: all}
}

func (r *reader) definition(number int) api.Func {
	name := r.nameOf(number, r.limits.Funcs)
	f := api.Func{Name: name.Text, Params: r.params(), At: name.At}
	r.must(":")
	f.Type = r.typeWord()
	r.must("=")
	f.Body = r.expr()
	r.must(";")
	return f
}

func (r *reader) params() []api.Param {
	r.must("(")
	if r.pass(")") {
		return nil
	}
	all := []api.Param{r.param(1)}
	for r.pass(",") {
		all = append(all, r.param(len(all)+1))
	}
	r.must(")")
	return all
}

func (r *reader) param(number int) api.Param {
	name := r.nameOf(number, r.limits.Arity)
	return api.Param{Name: name.Text, Type: r.typeWord(), At: name.At}
}

package lang

import "fathom/api"

// reader goes through marks from the front. Nothing goes past the last one, which is the end's.
type reader struct {
	marks   []api.Mark
	at      int
	limits  api.Limits
	nesting int // of the let, strict and case that what is read stands in
}

func (r *reader) next() api.Mark { return r.marks[r.at] }

func (r *reader) take() api.Mark {
	mark := r.next()
	r.at++
	return mark
}

// giveUp ends the reading at the mark that is next; Parse catches it.
func (r *reader) giveUp(why api.Errno) {
	panic(api.Fault{Why: why, At: r.next().At})
}

// stands asks for a word or sign. No name, number or end has the text of one, so the text is enough.
func (r *reader) stands(text string) bool { return r.next().Text == text }

// pass takes a word or sign if it stands there.
func (r *reader) pass(text string) bool {
	if !r.stands(text) {
		return false
	}
	r.take()
	return true
}

// must takes a word or sign that has to stand there.
func (r *reader) must(text string) {
	if !r.pass(text) {
		r.giveUp(api.ErrGram)
	}
}

func (r *reader) name() api.Mark {
	if r.next().Kind != api.MarkName {
		r.giveUp(api.ErrGram)
	}
	return r.take()
}

// nameOf takes the name of what has this number, of which no more than most may be.
func (r *reader) nameOf(number, most int) api.Mark {
	if number > most && r.next().Kind == api.MarkName {
		r.giveUp(api.ErrTooBig)
	}
	return r.name()
}

func (r *reader) typeWord() api.Type {
	switch {
	case r.pass("N"):
		return api.TypeN
	case r.pass("B"):
		return api.TypeB
	}
	r.must("L")
	return api.TypeL
}

package parse

import "marquetry/api"

// arms reads the cases of a match or a try, and the word that ends them.
func (p *parser) arms() []api.Arm {
	var arms []api.Arm
	for {
		pat := p.pat()
		p.need("->")
		arms = append(arms, api.Arm{P: pat, Body: p.seq()})
		if p.need("|", "end").Text == "end" {
			return arms
		}
	}
}

// pat reads a pattern.
func (p *parser) pat() api.Pat {
	if p.rest[0].Kind == api.TokTag {
		tag := p.read()
		return api.Pat{Kind: api.PTag, At: tag.At, Name: tag.Text, Args: []api.Pat{p.patom()}}
	}
	return p.patom()
}

// patom reads a pattern that no tag begins.
func (p *parser) patom() api.Pat {
	if l, ok := leafOf(p.rest[0]); ok {
		return p.patLeaf(l)
	}
	first := p.need("-", "(", "{")
	switch first.Text {
	case "-":
		return p.negative(first.At)
	case "{":
		labels, args := fields(p, p.pat)
		return api.Pat{Kind: api.PRecord, At: first.At, Labels: labels, Args: args}
	}
	if _, unit := p.accept(")"); unit {
		return api.Pat{Kind: api.PUnit, At: first.At}
	}
	inner := p.pat()
	p.need(")")
	return inner
}

// patLeaf reads the pattern that is the next token.
func (p *parser) patLeaf(l leaf) api.Pat {
	at := p.read().At
	if l.pat == api.PVar && l.name == "_" {
		return api.Pat{Kind: api.PAny, At: at}
	}
	return api.Pat{Kind: l.pat, At: at, Name: l.name, N: l.n, S: l.s}
}

// negative reads the number after a minus at that place.
func (p *parser) negative(at int) api.Pat {
	if p.rest[0].Kind != api.TokInt {
		p.refuse()
	}
	return api.Pat{Kind: api.PInt, At: at, N: -p.read().N}
}

package infer

import "marquetry/api"

// patternRules returns the rules by which the types of patterns are found.
func (f *finder) patternRules() map[int]func(*api.TPat) api.Type {
	return map[int]func(*api.TPat) api.Type{
		api.PAny:    f.anyPattern,
		api.PVar:    f.varPattern,
		api.PInt:    basic(api.TyInt).pattern,
		api.PString: basic(api.TyString).pattern,
		api.PBool:   basic(api.TyBool).pattern,
		api.PUnit:   basic(api.TyUnit).pattern,
		api.PExn:    basic(api.TyExn).pattern,
		api.PTag:    f.tagPattern,
		api.PRecord: f.recordPattern,
	}
}

func (f *finder) anyPattern(*api.TPat) api.Type {
	return f.fresh()
}

func (f *finder) varPattern(p *api.TPat) api.Type {
	t := f.fresh()
	f.bind(p.V, t, nil)
	return t
}

func (f *finder) tagPattern(p *api.TPat) api.Type {
	of := f.pattern(&p.Args[0])
	return tags(p.S, of, f.Fresh())
}

func (f *finder) recordPattern(p *api.TPat) api.Type {
	var l []api.Field
	for i := range p.Args {
		l = append(l, present(p.Labels[i], f.pattern(&p.Args[i])))
	}
	return record(l, f.Fresh())
}

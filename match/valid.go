package match

import "marquetry/api"

const (
	mostPatterns = 64
	mostParts    = 256 // of a pattern
)

// check gives up if there are too many patterns or parts of one, or if some pattern is not valid.
func check(l []api.TPat) {
	need(len(l) <= mostPatterns, api.ErrMany)
	for i := range l {
		need(spare(&l[i], mostParts) >= 0, api.ErrMany)
	}
	for i := range l {
		checkForm(&l[i])
	}
}

// spare returns how many of so many parts a pattern leaves, or -1 if it has more. It goes no deeper than that, however deep
// the pattern is.
func spare(p *api.TPat, parts int) int {
	parts--
	for i := 0; i < len(p.Args) && parts >= 0; i++ {
		parts = spare(&p.Args[i], parts)
	}
	return parts
}

// checkForm gives up if a part of a pattern is not such as a valid term has it. Which variables it binds is not asked.
func checkForm(p *api.TPat) {
	need(wellFormed(p), api.ErrForm)
	for i := range p.Args {
		checkForm(&p.Args[i])
	}
}

// A shape is how much of each field a pattern has.
type shape struct {
	v            int
	n            int64
	s            string
	labels, args int
}

// wellFormed reports whether a pattern has each field of its kind within its bounds, and no other.
func wellFormed(p *api.TPat) bool {
	other := shape{p.V, p.N, p.S, len(p.Labels), len(p.Args)} // what the kind has is taken out of it
	ok := true
	switch p.Kind {
	case api.PAny, api.PUnit:
	case api.PVar:
		other.v = 0
	case api.PInt:
		ok, other.n = -1<<62 <= p.N && p.N < 1<<62, 0
	case api.PBool:
		ok, other.n = p.N == 0 || p.N == 1, 0
	case api.PString:
		ok, other.s = len(p.S) <= api.MaxText, ""
	case api.PExn:
		ok, other.s = p.S != "", ""
	case api.PTag:
		ok, other.s, other.args = p.S != "" && len(p.Args) == 1, "", 0
	case api.PRecord:
		ok, other.labels, other.args = len(p.Labels) == len(p.Args) && distinct(p.Labels), 0, 0
	default:
		return false
	}
	return ok && other == shape{}
}

// distinct reports whether labels are all different, and none is empty.
func distinct(labels []string) bool {
	seen := map[string]struct{}{"": {}}
	for _, l := range labels {
		if _, again := seen[l]; again {
			return false
		}
		seen[l] = struct{}{}
	}
	return true
}

package match

import "marquetry/api"

// A compiler makes a tree of rows.
type compiler struct {
	reader
	left int // how many more parts the tree may have
}

// tree returns the tree of rows.
func (c *compiler) tree(rows []row) api.Tree {
	need(c.left > 0, api.ErrMany)
	c.left--
	switch {
	case len(rows) == 0:
		return api.Tree{Kind: api.TreeFail}
	case len(rows[0].conditions) == 0:
		return c.leaf(rows[0])
	}
	return c.test(rows, rows[0].conditions[0].place)
}

// leaf returns the tree of a row that has no condition.
func (c *compiler) leaf(r row) api.Tree {
	t := api.Tree{Kind: api.TreeLeaf, Case: r.number}
	for _, p := range r.bound {
		t.Binds = append(t.Binds, api.Bind{V: p.v, Path: c.path(p.place)})
	}
	return t
}

// test returns the tree of rows that begins with a test of a place.
func (c *compiler) test(rows []row, place int) api.Tree {
	t := api.Tree{Kind: api.TreeTest, Path: c.path(place)}
	for _, n := range choicesAt(rows, place) {
		rest := selected(rows, place, func(p *part) bool { return p.choice == n })
		x := c.choices.all[n]
		p := api.TPat{Kind: x.kind, N: x.n, S: x.s}
		t.Branches = append(t.Branches, api.Branch{P: p, T: c.tree(rest)})
	}
	rest := selected(rows, place, func(*part) bool { return false })
	t.Else = []api.Tree{c.tree(rest)}
	return t
}

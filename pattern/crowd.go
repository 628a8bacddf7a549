package pattern

// crowd is a set of nodes, in the order in which they came, each of them once.
type crowd struct {
	list   []int
	count  int
	inside []bool
}

// newCrowd is an empty crowd with room for nodes numbered below size.
func newCrowd(size int) *crowd {
	return &crowd{list: make([]int, size), inside: make([]bool, size)}
}

// enter lets a node in, if it is one and not in yet.
func (c *crowd) enter(n int) {
	if n < 0 || n >= len(c.inside) || c.inside[n] || c.count >= len(c.list) {
		return
	}
	c.inside[n] = true
	c.list[c.count] = n
	c.count++
}

// holds tells whether a node is in.
func (c *crowd) holds(n int) bool {
	return n >= 0 && n < len(c.inside) && c.inside[n]
}

// member is the node that came i-th, or none.
func (c *crowd) member(i int) int {
	if i < 0 || i >= c.count || i >= len(c.list) {
		return none
	}
	return c.list[i]
}

// empty lets all nodes out.
func (c *crowd) empty() {
	for i := range c.inside {
		c.inside[i] = false
	}
	c.count = 0
}

package run_test

import (
	"cmp"
	"slices"

	"stipend/api"
	"stipend/order"
	"stipend/run"
)

// model is an employee, reckoned anew from the first period on at each step, by whole numbers alone; of amounts that are far from the most.
type model struct {
	t         api.Table
	count     int // periods the year has
	nominal   int // whole ones
	code      api.Code
	protected int64
	orders    []order.State
	inputs    []run.Input
	next      []api.Element
	slips     []api.Slip
}

// rounded: parts of 10000 that aren't below 0 in whole ones.
func rounded(parts int64, mode int) int64 {
	whole, rest := parts/10000, parts%10000
	up := false
	switch mode {
	case api.Up:
		up = rest > 0
	case api.HalfUp:
		up = rest >= 5000
	case api.HalfDown:
		up = rest > 5000
	case api.HalfEven:
		up = rest > 5000 || rest == 5000 && whole%2 == 1
	}
	if up {
		whole++
	}
	return whole
}

// banded: what an amount comes to in parts by bands scaled by n and d, of the employee's rates, or the employer's.
func banded(x int64, n, d int, employer bool, bands []api.Band) int64 {
	parts := int64(0)
	for i, b := range bands {
		rate := b.Rate
		if employer {
			rate = b.Employer
		}
		from, to := b.From*int64(n)/int64(d), x
		if i+1 < len(bands) {
			to = min(to, bands[i+1].From*int64(n)/int64(d))
		}
		parts += max(to-from, 0) * int64(rate)
	}
	return parts
}

// worth: what an element is worth, rounded to the nearest, of two away from 0.
func worth(x api.Element) int64 {
	all, sign := x.Amount*x.Units, int64(1)
	if all < 0 {
		all, sign = -all, -1
	}
	return sign * ((all + 50) / 100)
}

// bases: what elements come to.
func (m *model) bases(list []api.Element) api.Bases {
	b := api.Bases{}
	for _, x := range list {
		for _, k := range m.t.Kinds {
			if k.Name == x.Kind {
				b.Cash += worth(x) * int64(k.Cash)
				b.Taxable += worth(x) * int64(k.Taxable)
				b.Social += worth(x) * int64(k.Social)
				break
			}
		}
	}
	return b
}

// due: the tax of so much taxable by a part of the year.
func (m *model) due(c api.Code, taxable int64, n int) int64 {
	free := c.Amount * int64(n) / int64(m.nominal)
	if c.Kind == api.CodeExtra {
		free = -free
	}
	charged := max(taxable-free, 0)
	switch c.Kind {
	case api.CodeNone:
		return 0
	case api.CodeFlat:
		return rounded(charged*int64(m.t.Schemes[c.Scheme][c.Flat].Rate), m.t.Round)
	}
	return rounded(banded(charged, n, m.nominal, false, m.t.Schemes[c.Scheme]), m.t.Round)
}

// reckon: what inputs come to, with so much more in the last one.
func (m *model) reckon(gross int64, list []run.Input) run.Clean {
	c := run.Clean{Shares: make([]api.Share, len(m.t.Contribs))}
	counted := make([]int64, len(m.t.Contribs))
	for i, x := range list {
		b := m.bases(x.Elements)
		if i == len(list)-1 {
			b.Cash, b.Taxable, b.Social = b.Cash+gross, b.Taxable+gross, b.Social+gross
		}
		c.Periods = append(c.Periods, b)
		c.Sum.Cash, c.Sum.Taxable, c.Sum.Social = c.Sum.Cash+b.Cash, c.Sum.Taxable+b.Taxable, c.Sum.Social+b.Social
		if x.Code.Alone {
			c.Tax += m.due(x.Code, b.Taxable, 1)
		} else {
			c.Tax = m.due(x.Code, c.Sum.Taxable, min(i+1, m.nominal))
		}
		for j, contrib := range m.t.Contribs {
			counts := b.Social
			if contrib.Base == api.OnTaxable {
				counts = b.Taxable
			}
			counts = max(counts, 0)
			if contrib.PeriodCeil > 0 {
				counts = min(counts, contrib.PeriodCeil)
			}
			if contrib.YearCeil > 0 {
				counts = min(counts, contrib.YearCeil-counted[j])
			}
			counted[j] += counts
			c.Shares[j].Employee += rounded(banded(counts, 1, 1, false, contrib.Bands), contrib.Round)
			c.Shares[j].Employer += rounded(banded(counts, 1, 1, true, contrib.Bands), contrib.Round)
		}
	}
	return c
}

// over: is the year over?
func (m *model) over() bool { return len(m.slips) == m.count }

// try: the next period's payslip ahead of orders.
func (m *model) try(gross int64) api.Slip {
	c := m.reckon(gross, append(slices.Clone(m.inputs), run.Input{Code: m.code, Elements: m.next}))
	s := api.Slip{Period: len(m.slips) + 1, Bases: c.Sum, Shares: c.Shares}
	need := c.Tax
	for _, was := range m.slips {
		s.Cash, s.Taxable, s.Social = s.Cash-was.Cash, s.Taxable-was.Taxable, s.Social-was.Social
		need -= was.Tax
		for j, x := range was.Shares {
			s.Shares[j].Employee -= x.Employee
			s.Shares[j].Employer -= x.Employer
		}
	}
	s.Tax = min(need, max(s.Cash, 0)*int64(m.t.Limit)/10000)
	if s.Tax < 0 && m.code.Alone {
		s.Tax = 0
	}
	s.Shortfall = need - s.Tax
	s.Net = s.Cash - s.Tax
	for _, x := range s.Shares {
		s.Net -= x.Employee
	}
	s.Pay = s.Net
	return s
}

// run: the next period is paid.
func (m *model) run() api.Slip {
	s := m.try(0)
	room := max(s.Net-m.protected, 0)
	for i := range m.orders {
		o := &m.orders[i]
		x := api.Taken{Order: o.ID, Brought: o.Arrears, Ordered: o.Amount + max(s.Net, 0)*int64(o.Rate)/10000}
		if o.Total > 0 {
			x.Ordered = min(x.Ordered, max(o.Total-o.Taken-o.Arrears, 0))
		}
		x.Due = x.Brought + x.Ordered
		x.Taken = min(x.Due, room)
		x.Carried = x.Due - x.Taken
		room -= x.Taken
		o.Taken, o.Arrears = o.Taken+x.Taken, x.Carried
		s.Taken = append(s.Taken, x)
		s.Pay -= x.Taken
	}
	m.slips = append(m.slips, s)
	m.inputs = append(m.inputs, run.Input{Code: m.code, Elements: m.next})
	m.next = nil
	return s
}

// order: an order more.
func (m *model) order(o api.Order) {
	m.orders = append(m.orders, order.State{Order: o})
	slices.SortFunc(m.orders, func(a, b order.State) int {
		return cmp.Or(cmp.Compare(a.Priority, b.Priority), cmp.Compare(a.ID, b.ID))
	})
}

// clone: a model of its own.
func (m *model) clone() *model {
	twin := *m
	twin.orders, twin.inputs, twin.next, twin.slips = slices.Clone(m.orders), slices.Clone(m.inputs), slices.Clone(m.next), slices.Clone(m.slips)
	return &twin
}

package front

import (
	"testing"

	"stipend/api"
	"stipend/period"
	"stipend/retro"
	"stipend/run"
	"stipend/table"
)

// corrected: a desk of an employee who was corrected ahead of it, so that what was due isn't what would have been.
func corrected(t *testing.T) *retro.Desk {
	t.Helper()
	x, _, e := table.Read("limit 5000", "round down", "scheme 0.00:2000", "kind salary + + +")
	if e != api.OK {
		t.Fatal(e)
	}
	y, e := period.New(api.Monthly, api.Date{Year: 2024, Month: 4, Day: 6})
	if e != api.OK {
		t.Fatal(e)
	}
	p, e := run.New(x, y, api.Code{Kind: api.CodeFree})
	if e != api.OK {
		t.Fatal(e)
	}
	_, e = p.Run()
	if e != api.OK || p.Replace(1, api.Element{Kind: "salary", Amount: 1000, Units: 100}) != api.OK {
		t.Fatal(e)
	}
	d, e := retro.New(p)
	if e != api.OK {
		t.Fatal(e)
	}
	return d
}

// P30.7: no line makes it so; where an employee's periods don't hang together, the first name, rising, is told.
func TestCheckTells(t *testing.T) {
	o := New()
	said, e := o.Run("set limit 5000\nset round down\nset scheme 0.00:2000\nset kind salary + + +\nopen monthly 2024-04-06\nhire ann 0L\nhire zed 0L")
	if len(said) > 0 || e != api.OK {
		t.Fatal(said, e)
	}
	for _, x := range []struct{ name, want string }{{"mia", "mia"}, {"zoe", "mia"}, {"bob", "bob"}, {"cy", "bob"}} {
		o.desks[x.name] = corrected(t)
		for range 5 {
			if name, ok := o.Check(); name != x.want || ok {
				t.Errorf("Check with %s: %q %v", x.name, name, ok)
			}
		}
	}
}

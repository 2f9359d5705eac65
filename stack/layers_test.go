package stack_test

import (
	"math"
	"slices"
	"strconv"
	"testing"

	"etalon/api"
	"etalon/stack"
)

// materials returns so many right materials with names of their own.
func materials(many int) []api.StackMaterial {
	var m []api.StackMaterial
	for i := range many {
		m = append(m, api.StackMaterial{Name: "m" + strconv.Itoa(i), Index: 15000 + i, Loss: i})
	}
	return m
}

// P3.2: Layered.
func TestLayered(t *testing.T) {
	m := []api.StackMaterial{{Name: "H", Index: 80000, Loss: 80000}, {Name: "L", Index: 5000}, {Name: "h", Index: 20000, Loss: 7}}
	l := []api.StackPart{back(often(part(film("H", 500), film("L", 0)), 2)), part(film("h", 1000000))}
	want := []api.Layer{{Index: 5000}, {Index: 80000, Loss: 80000, Thick: 500}, {Index: 5000}, {Index: 80000, Loss: 80000, Thick: 500}, {Index: 20000, Loss: 7, Thick: 1000000}}
	got, e := stack.Layered(l, m)
	wantList(t, "layers", got, e, want, api.OK)
	slices.Reverse(m)
	got, e = stack.Layered(l, m)
	wantList(t, "materials in another order", got, e, want, api.OK)
	for _, m := range [][]api.StackMaterial{nil, {}, materials(20)} {
		got, e = stack.Layered(nil, m)
		wantList(t, "no layers", got, e, nil, api.OK)
		got, e = stack.Layered(l, m)
		wantList(t, "other materials", got, e, nil, api.ErrMissing)
	}
	got, e = stack.Layered([]api.StackPart{part(film("m0", 1), film("m19", 2))}, materials(20))
	wantList(t, "twenty materials", got, e, []api.Layer{{Index: 15000, Thick: 1}, {Index: 15019, Loss: 19, Thick: 2}}, api.OK)
	got, e = stack.Layered([]api.StackPart{part(film("m0", 1), film("m1", 2))}, materials(1))
	wantList(t, "one is missing", got, e, nil, api.ErrMissing)
	for _, x := range wrongStacks() {
		for _, m := range [][]api.StackMaterial{materials(2), materials(21), {{}}} {
			got, e := stack.Layered(x.l, m)
			wantList(t, x.name, got, e, nil, x.errno)
		}
	}
}

// P3.2: the errors of materials, also of those that no layer has.
func TestLayeredErrors(t *testing.T) {
	for _, x := range []struct {
		name  string
		m     api.StackMaterial
		errno api.Errno
	}{
		{"no name", api.StackMaterial{Index: 15000}, api.ErrName},
		{"a long name", api.StackMaterial{Name: "abcdefghijklm", Index: 15000}, api.ErrName},
		{"no name ahead of the index", api.StackMaterial{Name: "a:"}, api.ErrName},
		{"an earlier name", api.StackMaterial{Name: "m0", Index: 15000}, api.ErrExists},
		{"an earlier name ahead of the index", api.StackMaterial{Name: "m1", Index: 4999, Loss: -1}, api.ErrExists},
		{"a small index", api.StackMaterial{Name: "a", Index: 4999}, api.ErrRange},
		{"a great index", api.StackMaterial{Name: "a", Index: 80001}, api.ErrRange},
		{"the least index", api.StackMaterial{Name: "a", Index: math.MinInt}, api.ErrRange},
		{"the greatest index", api.StackMaterial{Name: "a", Index: math.MaxInt}, api.ErrRange},
		{"a loss below 0", api.StackMaterial{Name: "a", Index: 5000, Loss: -1}, api.ErrRange},
		{"a great loss", api.StackMaterial{Name: "a", Index: 80000, Loss: 80001}, api.ErrRange},
		{"the least loss", api.StackMaterial{Name: "a", Index: 5000, Loss: math.MinInt}, api.ErrRange},
	} {
		m := append(materials(3), x.m, api.StackMaterial{})
		for _, l := range [][]api.StackPart{nil, {part(film("m2", 1))}, {part(film("none", 1))}} {
			got, e := stack.Layered(l, m)
			wantList(t, x.name, got, e, nil, x.errno)
		}
		got, e := stack.Layered(nil, append(m, materials(17)...))
		wantList(t, "too many ahead of "+x.name, got, e, nil, api.ErrLarge)
	}
	got, e := stack.Layered(nil, materials(21))
	wantList(t, "too many", got, e, nil, api.ErrLarge)
	m := materials(20)
	m[19].Name = "M0"
	got, e = stack.Layered(nil, m)
	wantList(t, "letters of both cases", got, e, nil, api.OK)
}

// P3.2: Boxed.
func TestBoxed(t *testing.T) {
	for _, x := range []struct {
		thick, thousandths int
		want               api.Range
	}{
		{1234, 10, span(1221, 1247)},
		{1234, 0, just(1234)},
		{1200, 10, span(1188, 1212)},
		{1234, 1000, span(0, 2468)},
		{1234, 999, span(1, 2467)},
		{1, 1, span(0, 2)},
		{1, 999, span(0, 2)},
		{0, 1000, just(0)},
		{1001, 1, span(999, 1003)},
		{1000000, 0, just(1000000)},
		{500000, 1000, span(0, 1000000)},
		{999000, 1, span(998001, 999999)},
		{999001, 1, span(998001, 1000000+1)},
	} {
		l := []api.Layer{{Index: 5000, Loss: 80000, Thick: x.thick}, {Index: 80000, Thick: 0}}
		got, e := stack.Boxed(l, x.thousandths)
		if x.want.Hi > 1000000 {
			wantList(t, "too thick", got, e, nil, api.ErrLarge)
			continue
		}
		want := []api.LayerBox{{Index: just(5000), Thick: x.want, Loss: 80000}, box(80000, 0)}
		wantList(t, "boxes", got, e, want, api.OK)
	}
	for _, l := range [][]api.Layer{nil, {}} {
		got, e := stack.Boxed(l, 0)
		wantList(t, "nothing", got, e, nil, api.OK)
		got, e = stack.Boxed(l, 1001)
		wantList(t, "nothing, wrong by too much", got, e, nil, api.ErrRange)
	}
	got, e := stack.Boxed(slices.Repeat([]api.Layer{{Index: 10000, Thick: 5}}, 40), 200)
	wantList(t, "many", got, e, slices.Repeat([]api.LayerBox{{Index: just(10000), Thick: span(4, 6)}}, 40), api.OK)
}

// P3.2: the errors of Boxed, in their order.
func TestBoxedErrors(t *testing.T) {
	right := api.Layer{Index: 10000, Thick: 1000000}
	for _, thousandths := range []int{math.MinInt, -1, 0, 1, 1000, 1001, math.MaxInt} {
		got, e := stack.Boxed(make([]api.Layer, 41), thousandths)
		wantList(t, "too many", got, e, nil, api.ErrLarge)
		for _, wrong := range []api.Layer{
			{}, {Index: 4999}, {Index: 80001}, {Index: math.MinInt}, {Index: math.MaxInt},
			{Index: 10000, Loss: -1}, {Index: 10000, Loss: 80001}, {Index: 10000, Loss: math.MinInt}, {Index: 10000, Loss: math.MaxInt},
			{Index: 10000, Thick: -1}, {Index: 10000, Thick: 1000001}, {Index: 10000, Thick: math.MinInt}, {Index: 10000, Thick: math.MaxInt},
		} {
			got, e := stack.Boxed([]api.Layer{right, wrong}, thousandths)
			wantList(t, "a wrong layer", got, e, nil, api.ErrRange)
		}
		want := api.ErrRange
		switch thousandths {
		case 0:
			continue
		case 1, 1000:
			want = api.ErrLarge
		}
		got, e = stack.Boxed([]api.Layer{right, right}, thousandths)
		wantList(t, "thousandths", got, e, nil, want)
	}
}

package stack_test

import (
	"testing"

	"etalon/api"
	"etalon/stack"
)

// grazed is an ask at the edge of total reflection in its layer: the ball of what goes through has 0.
func grazed(lo, hi int) api.StackAsk {
	a := straight(5000, 10000, box(10000, 300))
	a.Index, a.Sine = 20000, span(lo, hi)
	return a
}

// P3.4: NormalIndex and Admittance.
func TestMedia(t *testing.T) {
	dense := straight(5000, 25000, lossy(box(20000, 0), 15000))
	for _, x := range []struct {
		name   string
		a      api.StackAsk
		medium int
		normal api.Ball
		errno  api.Errno
	}{
		{"in front", quarter(), 0, at(one, 0, 0), api.OK},
		{"a layer", quarter(), 1, at(2*one, 0, 0), api.OK},
		{"behind", quarter(), 2, at(4*one, 0, 0), api.OK},
		{"the side of 3 of 5", aslant(quarter(), 6000), 0, at(838861, 0, 2), api.OK},
		{"at the side of 1, a layer of 1", grazed(5000, 5000), 1, at(0, 0, 0), api.OK},
		{"stopped at the side of 3 of 5, where 1 is 2", aslant(grazed(0, 0), 6250), 1, at(0, 786432, 0), api.OK},
		{"stopped, from 3 to 4", grazed(6250, 6250), 2, at(0, 786432, 0), api.OK},
		{"a range to the edge", grazed(4999, 5000), 1, at(0, 0, 0), api.ErrClash},
		{"a range from the edge", grazed(5000, 5001), 1, at(0, 0, 0), api.ErrClash},
		{"a range over the edge", grazed(4000, 6000), 1, at(0, 0, 0), api.ErrClash},
		{"a range over the edge, in front", grazed(4000, 6000), 0, at(1811270, 0, 133550), api.OK},
		{"a loss", dense, 1, at(2*one, 3*one/2, 4), api.OK},
		{"the loss in front", dense, 0, at(one, 0, 0), api.OK},
		{"the greatest index", straight(5000, 80000), 1, at(8*one, 0, 0), api.OK},
		{"the greatest index with a small loss", straight(5000, 20000, lossy(box(80000, 1), 1)), 1, at(8*one, 105, 7), api.OK},
		{"the greatest index with a loss", straight(5000, 20000, lossy(box(80000, 1), 41000)), 1, at(0, 0, 0), api.ErrLarge},
		{"the greatest index with the greatest loss", straight(5000, 20000, lossy(box(80000, 1), 80000)), 1, at(0, 0, 0), api.ErrLarge},
		{"a wide range at the greatest index", straight(5000, 20000, api.LayerBox{Index: span(79999, 80000)}), 1, at(0, 0, 0), api.ErrRange},
		{"all indices", straight(5000, 20000, api.LayerBox{Index: span(5000, 80000)}), 1, at(0, 0, 0), api.ErrClash},
		{"all small indices with a loss", straight(5000, 20000, lossy(api.LayerBox{Index: span(5000, 20000)}, 5000)), 1, at(0, 0, 0), api.ErrZero},
		{"the same index and loss", straight(5000, 20000, lossy(box(10000, 0), 10000)), 1, at(one, one, 4), api.OK},
	} {
		got, e := stack.NormalIndex(x.a, x.medium)
		wantSame(t, x.name, got, e, x.normal, x.errno)
		got, e = stack.Admittance(x.a, x.medium)
		wantSame(t, "admittance "+x.name, got, e, x.normal, x.errno)
	}
}

// P3.4: admittances of fields in the plane of incidence.
func TestAdmittancesInPlane(t *testing.T) {
	for _, x := range []struct {
		name   string
		a      api.StackAsk
		medium int
		want   api.Ball
		errno  api.Errno
	}{
		{"straight", quarter(), 1, at(2*one, 0, 0), api.OK},
		{"stopped", grazed(6250, 6250), 1, at(0, -1398101, 1), api.OK},
		{"at the edge", grazed(5000, 5000), 1, at(0, 0, 0), api.ErrZero},
		{"over the edge", grazed(4999, 5001), 1, at(0, 0, 0), api.ErrClash},
		{"a loss", straight(5000, 25000, lossy(box(20000, 0), 15000)), 1, at(2*one, 3*one/2, 5), api.OK},
	} {
		got, e := stack.Admittance(inPlane(x.a), x.medium)
		wantSame(t, x.name, got, e, x.want, x.errno)
	}
}

// P3.4: PartsOfLayer.
func TestPartsOfLayer(t *testing.T) {
	none := api.Range{}
	wide := straight(5000, 15000, api.LayerBox{Index: span(10000, 20000), Thick: span(300, 700)})
	wide.Wave = span(4000, 8000)
	// In a layer from 1.5 to 3.5 the square is from 0 to 12 at the side of 0.5, in one from 1.4375 to 1.5 it is up to 0
	// at the side of 1.5.
	fromNothing := aslant(straight(5000, 15000, api.LayerBox{Index: span(15000, 35000), Thick: just(500)}), 5000)
	toNothing := aslant(straight(5000, 15000, api.LayerBox{Index: span(14375, 15000), Thick: just(500)}), 6000)
	toNothing.Index = 25000
	faint := straight(5000, 15000, lossy(api.LayerBox{Index: span(10000, 10010), Thick: just(1000)}, 1))
	for _, x := range []struct {
		name  string
		a     api.StackAsk
		want  [2]api.Range
		errno api.Errno
	}{
		{"a quarter wave", quarter(), [2]api.Range{just(1048576), none}, api.OK},
		{"no thickness", straight(5000, 15000, box(20000, 0)), [2]api.Range{none, none}, api.OK},
		{"no whole parts", straight(3000, 15000, box(10000, 1)), [2]api.Range{span(1398, 1399), none}, api.OK},
		{"ranges", wide, [2]api.Range{span(111218, 1468007), none}, api.OK},
		{"stopped", grazed(6250, 6250), [2]api.Range{none, span(188743, 188744)}, api.OK},
		{"at the edge", grazed(5000, 5000), [2]api.Range{none, none}, api.OK},
		{"from the edge on", fromNothing, [2]api.Range{span(0, 1452950), none}, api.OK},
		{"up to the edge", toNothing, [2]api.Range{none, span(0, 180671)}, api.OK},
		{"over the edge", grazed(5000, 5001), [2]api.Range{}, api.ErrClash},
		{"a loss", straight(5000, 15000, lossy(box(20000, 1000), 15000)), [2]api.Range{span(1677718, 1677725), span(1258288, 1258295)}, api.OK},
		{"a loss that may be none", faint, [2]api.Range{span(838432, 840126), span(0, 931)}, api.OK},
		{"the greatest thickness", straight(1000, 15000, box(80000, 1000000)), [2]api.Range{just(33554432000), none}, api.OK},
	} {
		got, e := stack.PartsOfLayer(x.a, 1)
		wantSame(t, x.name, got, e, x.want, x.errno)
		got, e = stack.PartsOfLayer(inPlane(x.a), 1)
		wantSame(t, x.name, got, e, x.want, x.errno)
	}
}

// thickBetween returns an ask with a layer of thicknesses that turn light by 4 times their parts of One.
func thickBetween(lo, hi int) api.StackAsk {
	a := straight(api.One/8, 15000, api.LayerBox{Index: just(10000), Thick: span(lo, hi)})
	a.Sine = just(0)
	return a
}

// P3.4: Factors, at a circle that is just less than a quarter of a turn and at one of a quarter.
func TestFactors(t *testing.T) {
	all := at(0, 0, one)
	for _, x := range []struct {
		name  string
		a     api.StackAsk
		want  [2]api.Ball
		errno api.Errno
	}{
		{"a quarter wave", quarter(), [2]api.Ball{at(0, one, 0), at(-one, 0, 0)}, api.OK},
		{"half a wave", straight(4000, 40000, box(20000, 1000)), [2]api.Ball{at(-one, 0, 0), at(one, 0, 0)}, api.OK},
		{"no thickness", straight(4000, 40000, box(20000, 0)), [2]api.Ball{at(one, 0, 0), at(one, 0, 0)}, api.OK},
		{"a quarter of a turn", thickBetween(0, 32768), [2]api.Ball{all, all}, api.OK},
		{"a quarter of a turn elsewhere", thickBetween(12345, 12345+32768), [2]api.Ball{all, all}, api.OK},
		{"an eighth", thickBetween(0, 16384), [2]api.Ball{at(968758, 401273, 411943), all}, api.OK},
		{"at the edge", grazed(5000, 5000), [2]api.Ball{at(one, 0, 0), at(one, 0, 0)}, api.OK},
		{"over the edge", grazed(5000, 5001), [2]api.Ball{}, api.ErrClash},
		{"all faded", straight(1000, 15000, lossy(box(10000, 100000), 10000)), [2]api.Ball{at(0, 0, 2), at(0, 0, 2)}, api.OK},
	} {
		got, e := stack.Factors(x.a, 1)
		wantSame(t, x.name, got, e, x.want, x.errno)
		got, e = stack.Factors(inPlane(x.a), 1)
		wantSame(t, x.name, got, e, x.want, x.errno)
	}
	just, e := stack.Factors(thickBetween(0, 32767), 1)
	if just[0] == all || just[1] != all || e != api.OK {
		t.Errorf("just less than a quarter: %v, %d", just, e)
	}
	just, e = stack.Factors(thickBetween(0, 16383), 1)
	if just[0] == all || just[1] == all || e != api.OK {
		t.Errorf("just less than an eighth: %v, %d", just, e)
	}
}

// P3.4, P3.5: MatrixOf and Product.
func TestMatrices(t *testing.T) {
	none := [4]api.Ball{at(one, 0, 0), {}, {}, at(one, 0, 0)}
	quarterOf2 := [4]api.Ball{{}, at(one/2, 0, 0), at(2*one, 0, 0), {}}
	quarterOf1 := [4]api.Ball{{}, at(one, 0, 0), at(one, 0, 0), {}}
	two := straight(4000, 40000, box(20000, 500), box(10000, 1000))
	for _, x := range []struct {
		name  string
		a     api.StackAsk
		layer int
		want  [4]api.Ball
		errno api.Errno
	}{
		{"a quarter wave", quarter(), 1, quarterOf2, api.OK},
		{"half a wave", straight(4000, 40000, box(20000, 1000)), 1, none, api.OK},
		{"no thickness", straight(4000, 40000, box(20000, 0)), 1, none, api.OK},
		{"the first one", two, 1, quarterOf2, api.OK},
		{"the second one", two, 2, quarterOf1, api.OK},
		{"at the edge", grazed(5000, 5000), 1, [4]api.Ball{}, api.ErrZero},
	} {
		got, e := stack.MatrixOf(x.a, x.layer)
		wantSame(t, x.name, got, e, x.want, x.errno)
	}
	for _, x := range []struct {
		name  string
		a     api.StackAsk
		want  [4]api.Ball
		errno api.Errno
	}{
		{"nothing", straight(4000, 40000), none, api.OK},
		{"a quarter wave", quarter(), quarterOf2, api.OK},
		{"two quarter waves", two, [4]api.Ball{at(one/2, 0, 0), {}, {}, at(2*one, 0, 0)}, api.OK},
		{"two quarter waves, the other way round", straight(4000, 40000, box(10000, 1000), box(20000, 500)), [4]api.Ball{at(2*one, 0, 0), {}, {}, at(one/2, 0, 0)}, api.OK},
		{"at the edge", grazed(5000, 5000), [4]api.Ball{}, api.ErrZero},
		{"at the edge, without a thickness", straight(5000, 15000, box(20000, 0)), none, api.OK},
	} {
		got, e := stack.Product(x.a)
		wantSame(t, x.name, got, e, x.want, x.errno)
	}
}

// overIndexed returns an ask whose medium in front is ErrRange, as its sines are too wide for the greatest index,
// whose layer of an index and a loss is right or not, and whose last medium is ErrLarge or right.
func overIndexed(index, loss, lossBehind int) api.StackAsk {
	a := straight(4000, 80000, lossy(box(index, 100), loss))
	a.Index, a.Sine, a.On.Loss = 80000, span(0, 2000), lossBehind
	if lossBehind == 0 {
		a.On.Index = 40000
	}
	return a
}

// P3.4, P3.5, P3.6: the first error of the operations: the media from the front on, and those alone that are asked for.
func TestFirstErrors(t *testing.T) {
	clash := grazed(4000, 6000)
	clash.On = api.Substrate{Index: 80000, Loss: 80000}
	for _, x := range []struct {
		name             string
		a                api.StackAsk
		all, layer, last api.Errno
	}{
		{"in front", overIndexed(40000, 0, 0), api.ErrRange, api.OK, api.OK},
		{"in front and a layer", overIndexed(10000, 0, 0), api.ErrRange, api.ErrClash, api.OK},
		{"in front and a layer with a loss", overIndexed(80000, 80000, 0), api.ErrRange, api.ErrLarge, api.OK},
		{"in front and behind", overIndexed(40000, 0, 80000), api.ErrRange, api.OK, api.ErrLarge},
		{"all of them", overIndexed(10000, 0, 80000), api.ErrRange, api.ErrClash, api.ErrLarge},
		{"a layer and behind", clash, api.ErrClash, api.ErrClash, api.ErrLarge},
		{"behind", straight(4000, 80000, box(20000, 500)), api.OK, api.OK, api.OK},
		{"behind with a loss", straight(4000, 60000, lossy(box(20000, 500), 1)), api.OK, api.OK, api.OK},
	} {
		for _, a := range []api.StackAsk{x.a, inPlane(x.a)} {
			for _, f := range onesOfAsks(1) {
				want := x.all
				switch f.name {
				case "NormalIndex", "Admittance", "PartsOfLayer", "Factors", "MatrixOf", "Product":
					want = x.layer
				case "OtherSide":
					continue
				}
				if e, _ := f.call(a); e != want {
					t.Errorf("%s, %s: %d; want %d", x.name, f.name, e, want)
				}
			}
			if _, e := stack.Admittance(a, 2); e != x.last {
				t.Errorf("%s, the last medium: %d; want %d", x.name, e, x.last)
			}
		}
	}
}

package fit_test

import (
	"fmt"

	"etalon/api"
	"etalon/fit"
)

// The example of the README: the thicknesses that explain a reading, and the setting that tells them apart.
func ExampleSearch() {
	layer := api.LayerBox{Index: api.Range{Lo: 14570, Hi: 14570}, Thick: api.Range{Lo: 0, Hi: 5000}}
	task := api.FitTask{
		Boxes: []api.LayerBox{layer},
		On:    api.Substrate{Index: 38820, Loss: 190},
		Readings: []api.Reading{{
			Name: "p", Wave: 6328, At: api.Incidence{Index: 10000, Sine: 9397},
			N: api.Range{Lo: 141000, Hi: 146000}, C: api.Range{Lo: 181000, Hi: 186000}, S: api.Range{Lo: -1024000, Hi: -1019000},
		}},
	}
	tree, errno := fit.Search(task, 12)
	if errno != api.OK {
		fmt.Println("error", errno)
		return
	}
	kept, refuted, errno := fit.CheckTree(task, tree)
	fmt.Println(kept, refuted, errno)
	boxes, _ := fit.Kept(task, tree)
	thin, _ := fit.HullOf(boxes[:4])
	thick, _ := fit.HullOf(boxes[4:])
	fmt.Println(thin, thick)
	settings := []api.FitSetting{{Wave: 6328, At: task.Readings[0].At}, {Wave: 5000, At: task.Readings[0].At}}
	further, errno := fit.FirstTelling(settings, [2][]api.LayerBox{thin, thick}, task.On)
	fmt.Println(further, errno)
	place, _ := fit.Where(task, tree, []api.Layer{{Index: 14570, Thick: 1200}})
	fmt.Println(tree[place])
	// Output:
	// 8 133 0
	// [{{14570 14570} {998 1004} 0}] [{{14570 14570} {3840 3846} 0}]
	// 1 0
	// -2
}

// The other example of the README: the fit of small changes, and what it misses.
func ExampleSmallChange() {
	rows, values := [][2]int{{1, 0}, {0, 1}, {1, 1}}, []int{1, 2, 4}
	change, errno := fit.SmallChange(rows, values)
	misses, _ := fit.Misses(rows, values)
	fmt.Println(change, misses, errno)
	// Output: [{4 3} {7 3}] [{-1 3} {-1 3} {1 3}] 0
}

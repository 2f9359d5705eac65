package glass_test

import (
	"fmt"

	"etalon/api"
	"etalon/glass"
)

// The example of the README: a catalogue is read, and a material of it asked.
func ExampleParse() {
	text := "note our materials\nglass dense\nrow 5000 15000 100\nrow 6000 14000 300\nglass plain\ncauchy 14500 400\n"
	l, mark, errno := glass.Parse(text)
	if errno != api.OK {
		fmt.Println("line", mark.Line, "column", mark.Column, "error", errno)
		return
	}
	i, _ := glass.Find(l, "dense")
	both, _ := glass.At(l[i], 5250)
	spans, _ := glass.Between(l[i], api.Range{Lo: 5000, Hi: 5250})
	fmt.Println(both, spans)
	// Output: [14750 150] [{14750 15000} {100 150}]
}

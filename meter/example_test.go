package meter_test

import (
	"fmt"

	"etalon/api"
	"etalon/meter"
)

// The example of the README: two scans, corrected, become a reading.
func ExampleReadingOf() {
	offset, errno := meter.Offset(api.PolarTurn{P: 4, Q: 3, R: 5})
	if errno != api.OK {
		fmt.Println("error", errno)
		return
	}
	var both [2]api.MeterSums
	for i, samples := range [2][]float32{{1220, 1540, 780, 460}, {1280, 1460, 720, 540}} {
		seen, _ := meter.SumsOf(api.MeterScan{Samples: samples, Margin: 1, Full: 4096})
		both[i], _ = meter.Corrected(offset, seen)
		fmt.Println(seen, both[i])
	}
	reading, errno := meter.ReadingOf(api.MeterQuery{
		Name: "p", Wave: 6328, At: api.Incidence{Index: 10000, Sine: 9397},
		Bare: both[0], Plate: both[1], Twice: api.PolarTurn{P: 0, Q: 1, R: 1},
	})
	fmt.Println(reading, errno)
	possible, _ := meter.Possible(reading)
	psi, _ := meter.PsiOf(reading)
	fmt.Println(possible, psi)
	text, _ := meter.Print([]api.Reading{reading})
	fmt.Print(text)
	// Output:
	// {{3996 4004} {438 442} {1078 1082}} {{3996 4004} {997 1003} {597 603}}
	// {{3996 4004} {558 562} {918 922}} {{3996 4004} {997 1003} {397 403}}
	// {p 6328 {10000 9397} {-526388 -522192} {312687 316463} {207934 211500}} 0
	// 2 {681 684}
	// p 6328 10000 9397 -526388 -522192 312687 316463 207934 211500 3312
}

package ball_test

import (
	"fmt"

	"etalon/api"
	"etalon/ball"
)

// The example of the README: 1/3 times 3 has One.
func ExampleTimes() {
	third, _ := ball.OfFrac(1, 3)
	three, _ := ball.OfFrac(3, 1)
	whole, errno := ball.Times(third, three)
	has, _ := ball.Contains(whole, api.One)
	fmt.Println(ball.Format(third), "|", ball.Format(three), "|", ball.Format(whole), errno, has)
	// Output: 349525 0 1 | 3145728 0 0 | 1048575 0 3 0 true
}

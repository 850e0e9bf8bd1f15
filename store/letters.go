package store

const (
	firstLetter = 'a' // stands for the small unit with the number 0
	lastLetter  = 'x'
)

// lettersOf returns the letters that stand for small units.
func lettersOf(numbers []int) string {
	letters := make([]byte, 0, len(numbers))
	for _, number := range numbers {
		letters = append(letters, byte(firstLetter+number))
	}
	return string(letters)
}

// numbersOf returns the numbers for which letters stand; false if one of them stands for none. What has several bytes, or is no letter at all, is none of these: so there is a number for each byte.
func numbersOf(letters string) ([]int, bool) {
	numbers := make([]int, 0, len(letters))
	for _, letter := range letters {
		if letter < firstLetter || letter > lastLetter {
			return nil, false
		}
		numbers = append(numbers, int(letter-firstLetter))
	}
	return numbers, true
}
